"""[5.1]: rows by which last doors lead out, and rings in which they lead round."""

import copy
import unittest
from itertools import permutations, product

from tests.things import (
    all_arrows, great_houses, no_arrows_of, no_gate_rooms, open_houses, path_house, refusal, ring_house, shut_houses,
    small_houses, some_arrows, things_of_every_kind, trapped_houses,
)
from turnarrows.arrows import last_doors
from turnarrows.errors import NoArrows, NotOpen
from turnarrows.trees import ring_holds, ring_of, row_holds, row_of

HOUSE = ((1, -1), (2, 0), (0, 1, -2))


def is_row(last, thing):
    """Of orders of all rooms alone: each last door leads out or to a room ahead."""
    return all(last[room] < 0 or last[room] in thing[:at] for at, room in enumerate(thing))


def is_round(last, thing):
    """Of tuples of rooms alone: the last doors lead from each to the next one, and these are unlike."""
    follows = thing[1:] + thing[:1]
    return len(set(thing)) == len(thing) > 0 and all(last[room] == after for room, after in zip(thing, follows))


def small():
    return [house for number, house in enumerate(small_houses()) if number % 11 == 0]


class RowTest(unittest.TestCase):
    def test_by_hand(self):
        self.assertEqual(row_of(HOUSE, (0, 1, 1)), [0, 2, 1])
        self.assertEqual(row_of(HOUSE, (0, 0, 0)), [0, 1, 2])
        self.assertIsNone(row_of(HOUSE, (1, 0, 0)))
        self.assertEqual(row_of(path_house(10), (0,) * 10), [9, 8, 7, 6, 5, 4, 3, 2, 1, 0])
        self.assertEqual(row_of(((-1,),) * 10, (0,) * 10), list(range(10)))

    def test_the_least_row_or_none(self):
        for house in small() + open_houses()[::4]:
            if no_gate_rooms(house) == () and len(house) <= 5:
                for arrows in some_arrows(house, 6):
                    last = last_doors(house, arrows)
                    rows = [list(row) for row in permutations(range(len(house))) if is_row(last, row)]
                    self.assertEqual(row_of(house, arrows), min(rows) if rows else None)

    def test_it_holds(self):
        for house in open_houses():
            for arrows in some_arrows(house, 6):
                row = row_of(house, arrows)
                ring = ring_of(house, arrows)
                self.assertIs(row is None, ring is not None)
                if row is not None:
                    self.assertIs(type(row), list)
                    self.assertIs(row_holds(house, arrows, row), True)

    def test_orders_that_hold_and_others(self):
        for house in small():
            for arrows in all_arrows(house):
                last = last_doors(house, arrows)
                for row in permutations(range(len(house))):
                    self.assertIs(row_holds(house, arrows, list(row)), is_row(last, row), (house, arrows, row))
                    self.assertIs(row_holds(house, arrows, row), False)

    def test_bent_rows(self):
        self.assertIs(row_holds(HOUSE, (0, 1, 1), [0, 2, 1]), True)
        for thing in (
            [0, 1, 2], [1, 0, 2], [2, 0, 1], [0, 2], [0, 2, 1, 1], [0, 0, 2, 1], [0, 2, 2], [0, 0, 0], [], (0, 2, 1),
            [False, 2, 1], [0, 2, True], [0, 2, None], [0, 2, "1"], [0, 2, [1]], [0, 2, 3], [-1, 0, 2], [0, 2, -2],
            {0: 0, 1: 2, 2: 1}, "021", [[0, 2, 1]], [0, 2, 10 ** 99], None, 0, [0, 2, (1,)], [{}, 2, 1],
        ):
            with self.subTest(thing=thing):
                self.assertIs(row_holds(HOUSE, (0, 1, 1), thing), False)

    def test_things_of_every_kind(self):
        for house in (HOUSE, ((-1,), (0,), (1,), (-2,)), ring_house(10), ((0, 1), (-1, 1))):
            things = things_of_every_kind()
            kept = copy.deepcopy(things)
            for thing in things:
                if thing != [1, 0] or len(house) != 2:
                    self.assertIs(row_holds(house, (0,) * len(house), thing), False)
                    self.assertIs(ring_holds(house, (0,) * len(house), thing), False)
            self.assertEqual(things, kept)

    def test_no_row_in_a_house_that_is_not_open(self):
        for house in trapped_houses():
            self.assertEqual(
                refusal(row_of, house, (0,) * len(house)), (NotOpen, {"room": no_gate_rooms(house)[0]}))
            self.assertIs(row_holds(house, (0,) * len(house), list(range(len(house)))), False)
            self.assertIsNotNone(ring_of(house, (0,) * len(house)))

    def test_a_told_list_is_the_askers_own(self):
        row = row_of(HOUSE, (0, 1, 1))
        row.append(7)
        self.assertEqual(row_of(HOUSE, (0, 1, 1)), [0, 2, 1])


class RingTest(unittest.TestCase):
    def test_by_hand(self):
        self.assertIsNone(ring_of(HOUSE, (0, 0, 0)))
        self.assertEqual(ring_of(HOUSE, (1, 0, 0)), (0, 1))
        self.assertEqual(ring_of(HOUSE, (1, 1, 1)), (0, 1, 2))
        self.assertEqual(ring_of(((0,),), (0,)), (0,))
        self.assertEqual(ring_of(ring_house(10), (0,) * 10), tuple(range(10)))

    def test_of_the_least_room_that_is_never_led_out(self):
        # Room 0 leads into the ring of 3 and 4, though that of 1 and 2 is less.
        house = ((3,), (2,), (1,), (4,), (3,))
        self.assertEqual(ring_of(house, (0,) * 5), (3, 4))
        self.assertEqual(ring_of(((-1,), (2,), (1,), (4,), (3,)), (0,) * 5), (1, 2))
        self.assertEqual(ring_of(((-1,), (4,), (2,), (4,), (3,)), (0,) * 5), (3, 4))

    def test_it_begins_with_its_least_room(self):
        self.assertEqual(ring_of(((2,), (0,), (1,)), (0, 0, 0)), (0, 2, 1))
        self.assertEqual(ring_of(((3,), (2,), (3,), (1,)), (0,) * 4), (1, 2, 3))

    def test_it_holds_whatever_room_it_begins_with(self):
        for house in trapped_houses() + open_houses() + shut_houses()[::10]:
            for arrows in some_arrows(house, 4):
                ring = ring_of(house, arrows)
                if ring is not None:
                    self.assertEqual((type(ring), min(ring)), (tuple, ring[0]))
                    for at in range(len(ring)):
                        self.assertIs(ring_holds(house, arrows, ring[at:] + ring[:at]), True)

    def test_all_tuples_of_small_houses(self):
        for house in small():
            for arrows in some_arrows(house, 4):
                last = last_doors(house, arrows)
                held = []
                for many in range(len(house) + 2):
                    for thing in product(range(len(house)), repeat=many):
                        self.assertIs(ring_holds(house, arrows, thing), is_round(last, thing), (house, arrows, thing))
                        held.extend([thing] if is_round(last, thing) else [])
                self.assertIs(ring_of(house, arrows) in held, held != [])

    def test_bent_rings(self):
        self.assertIs(ring_holds(HOUSE, (1, 1, 1), (1, 2, 0)), True)
        for thing in (
            (0, 2, 1), (0, 1), (1, 2), (0, 1, 2, 0), (0, 1, 2, 0, 1, 2), (), (0,), [0, 1, 2], (False, True, 2),
            (0, True, 2), (0, 1, "2"), (0, 1, None), (0, 1, [2]), (0, 1, 3), (0, 1, -1), ((0, 1, 2),), "012", None,
            {0: 1, 1: 2, 2: 0}, (0, 1, 10 ** 99), (0, 1, {}),
        ):
            with self.subTest(thing=thing):
                self.assertIs(ring_holds(HOUSE, (1, 1, 1), thing), False)

    def test_no_arrows_ahead_of_not_open(self):
        for house in (HOUSE, *great_houses()):
            for arrows in no_arrows_of(house):
                self.assertEqual(refusal(row_of, house, arrows), (NoArrows, {}))
                self.assertEqual(refusal(row_holds, house, arrows, None), (NoArrows, {}))
                self.assertEqual(refusal(ring_of, house, arrows), (NoArrows, {}))
                self.assertEqual(refusal(ring_holds, house, arrows, None), (NoArrows, {}))


if __name__ == "__main__":
    unittest.main()
