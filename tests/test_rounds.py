"""[4.1] to [4.5]: rounds of a walker in a shut house, turns, and why a state is in no round."""

import copy
import unittest
from itertools import permutations, product
from math import gcd

from tests.things import (
    all_arrows, no_arrows_of, no_rooms_of, one_step, open_houses, path_house, reached, refusal, ring_house,
    rooms_from, shut_houses, some_arrows, things_of_every_kind, trapped_houses,
)
from turnarrows.arrows import arrows_many, last_doors
from turnarrows.errors import NoArrows, NoRoom, NotShut
from turnarrows.houses import is_balanced, is_shut
from turnarrows.rounds import in_round, round_of, turns_of, why_not, why_not_holds
from turnarrows.walks import step

HOUSE = ((0, 1), (0, 2), (0, 1))
# Room 0 leads to the ring of 1 and 2, or to 3, from which nothing leads away.
PARTED = ((1, 3), (2,), (1, 2), (3, 3, 3))


def walked(house, arrows, room):
    """The states from this one on, till one comes again, and the number of that one."""
    seen, order = {}, []
    state = (arrows, room)
    while state not in seen:
        seen[state] = len(order)
        order.append(state)
        state = one_step(house, *state)
    return order, seen[state]


def cases(each=1, most=3):
    for house in shut_houses()[::each]:
        for arrows in some_arrows(house, most):
            for room in range(len(house)):
                yield house, arrows, room


def few():
    return [house for house in shut_houses() if arrows_many(house) <= 36 and len(house) <= 4]


def is_round(last, thing):
    return len(set(thing)) == len(thing) > 0 and all(last[a] == b for a, b in zip(thing, thing[1:] + thing[:1]))


class RoundOfTest(unittest.TestCase):
    def test_by_hand(self):
        self.assertEqual(round_of(((0,),), (0,), 0), (0, 1))
        self.assertEqual(round_of(((0,) * 6,), (4,), 0), (0, 6))
        self.assertEqual(round_of(((1,), (1,)), (0, 0), 0), (1, 1))
        self.assertEqual(round_of(ring_house(10), (0,) * 10, 3), (0, 10))
        self.assertEqual(round_of(((1,), (0, 1)), (0, 0), 0), (1, 3))
        self.assertEqual(round_of(PARTED, (1, 0, 0, 0), 0), (1, 3))
        self.assertEqual(round_of(PARTED, (0, 0, 0, 0), 0), (2, 3))

    def test_state_by_state(self):
        for house, arrows, room in cases():
            order, first = walked(house, arrows, room)
            told = round_of(house, arrows, room)
            self.assertEqual(told, (first, len(order) - first), (house, arrows, room))
            self.assertEqual([type(part) for part in told], [int, int])

    def test_a_long_way_ahead(self):
        # The last door of room 9 leads to itself till the walker has come there.
        house = tuple((0, room + 1) for room in range(9)) + ((0, 9),)
        order, first = walked(house, (0,) * 10, 0)
        self.assertEqual(round_of(house, (0,) * 10, 0), (first, len(order) - first))
        self.assertGreater(first, 400)

    def test_a_long_round(self):
        house = tuple((0, 0, 0, room + 1) for room in range(7)) + ((0,),)
        self.assertEqual(round_of(house, (3,) * 7 + (0,), 0)[1], sum(4 ** (7 - room) for room in range(7)) + 1)


class TurnsTest(unittest.TestCase):
    def test_by_hand(self):
        self.assertEqual(turns_of(((0,),), (0,), 0), (1,))
        self.assertEqual(turns_of(((1,), (0, 1)), (0, 0), 0), (1, 1))
        self.assertEqual(turns_of(((1, 1), (0,)), (0, 0), 0), (1, 2))
        self.assertEqual(turns_of(PARTED, (1, 0, 0, 0), 0), (0, 0, 0, 1))
        self.assertEqual(turns_of(PARTED, (0, 0, 0, 0), 0), (0, 1, 1, 0))
        self.assertEqual(turns_of(PARTED, (0, 0, 0, 0), 3), (0, 0, 0, 1))

    def test_counted_in_the_round(self):
        for house, arrows, room in cases():
            order, first = walked(house, arrows, room)
            left = [place for _, place in order[first:]]
            told = turns_of(house, arrows, room)
            self.assertEqual([many * len(doors) for many, doors in zip(told, house)],
                             [left.count(place) for place in range(len(house))], (house, arrows, room))
            self.assertIs(type(told), tuple)

    def test_they_fit_and_have_no_common_divisor(self):
        for house, arrows, room in cases(each=3, most=2):
            told = turns_of(house, arrows, room)
            rooms = [place for place, many in enumerate(told) if many]
            self.assertEqual(gcd(*told), 1)
            for place in rooms:
                self.assertEqual(list(rooms_from(house, place)), rooms)
                come = sum(many * doors.count(place) for many, doors in zip(told, house))
                self.assertEqual(come, told[place] * len(house[place]))
            self.assertEqual(round_of(house, arrows, room)[1], sum(a * len(b) for a, b in zip(told, house)))

    def test_each_turn_is_one_where_the_rooms_are_balanced(self):
        seen = 0
        for house, arrows, room in cases():
            if is_balanced(house):
                seen += 1
                rooms = rooms_from(house, room)
                self.assertEqual(turns_of(house, arrows, room), tuple(int(at in rooms) for at in range(len(house))))
        self.assertGreater(seen, 50)

    def test_they_hang_on_the_rooms_alone(self):
        for house in few()[::2]:
            told = {}
            for arrows in all_arrows(house):
                for room in range(len(house)):
                    turns = turns_of(house, arrows, room)
                    left = tuple(many > 0 for many in turns)
                    self.assertEqual(told.setdefault(left, turns), turns)


class InRoundTest(unittest.TestCase):
    def test_by_hand(self):
        self.assertIs(in_round(((0,),), (0,), 0), True)
        self.assertIs(in_round(((1,), (1,)), (0, 0), 0), False)
        self.assertIs(in_round(((1,), (1,)), (0, 0), 1), True)
        self.assertIs(in_round(((1,), (0, 1)), (0, 0), 0), False)
        self.assertIs(in_round(((1,), (0, 1)), (0, 0), 1), True)
        # Two rings: of 0 alone, and of 1 and 2.
        self.assertIs(in_round(((1, 0), (0, 2), (0, 1)), (0, 0, 0), 0), False)

    def test_state_by_state(self):
        for house, arrows, room in cases():
            order, first = walked(house, arrows, room)
            self.assertIs(in_round(house, arrows, room), first == 0)
            for number, state in list(enumerate(order))[:30]:
                self.assertIs(in_round(house, *state), number >= first)

    def test_just_where_ahead_is_nought_and_by_the_words_of_rings(self):
        for house in few():
            for arrows in all_arrows(house):
                last = last_doors(house, arrows)
                for room in range(len(house)):
                    way = reached(house)
                    rooms = rooms_from(house, room)
                    back = all(way[there][room] for there in rooms)
                    rings = [ring for many in range(1, len(rooms) + 1) for ring in permutations(rooms, many)
                             if ring[0] == min(ring) and is_round(last, ring)]
                    right = back and len(rings) == 1 and room in rings[0]
                    self.assertIs(in_round(house, arrows, room), right)
                    self.assertIs(round_of(house, arrows, room)[0] == 0, right)

    def test_a_step_leads_from_a_round_into_it_and_from_just_one(self):
        for house in few()[::2]:
            states = [(arrows, room) for arrows in all_arrows(house) for room in range(len(house))]
            inside = [state for state in states if in_round(house, *state)]
            led = [step(house, *state) for state in inside]
            self.assertEqual(sorted(led), sorted(inside))


class WhyNotTest(unittest.TestCase):
    def test_by_hand(self):
        self.assertIsNone(why_not(((0,),), (0,), 0))
        self.assertEqual(why_not(((1,), (1,)), (0, 0), 0), ("gone", 1))
        self.assertEqual(why_not(PARTED, (0, 0, 0, 0), 0), ("gone", 1))
        self.assertEqual(why_not(((1,), (0, 1)), (0, 0), 0), ("ring", (1,)))
        self.assertEqual(why_not(((1, 0), (0, 2), (0, 1)), (0, 0, 0), 0), ("ring", (1, 2)))
        # Rings of 1 and 3, of 2, of 4: the least tuple that is without the walker's room.
        house = ((1, 2, 3, 4, 0), (0, 3), (0, 2), (0, 1), (0, 4))
        self.assertEqual(why_not(house, (0,) * 5, 0), ("ring", (1, 3)))
        self.assertEqual(why_not(house, (0,) * 5, 3), ("ring", (0,)))
        self.assertEqual(why_not(house, (1, 0, 0, 0, 0), 4), ("ring", (1, 3)))

    def test_the_first_room_and_the_least_ring(self):
        for house in few():
            way = reached(house)
            for arrows in some_arrows(house, 8):
                last = last_doors(house, arrows)
                for room in range(len(house)):
                    rooms = rooms_from(house, room)
                    gone = [there for there in rooms if not way[there][room]]
                    rings = [ring for many in range(1, len(rooms) + 1) for ring in permutations(rooms, many)
                             if is_round(last, ring) and room not in ring]
                    right = ("gone", gone[0]) if gone else ("ring", min(rings)) if rings else None
                    self.assertEqual(why_not(house, arrows, room), right)
                    for there in range(len(house)):
                        self.assertIs(why_not_holds(house, arrows, room, ("gone", there)), there in gone)
                    for many in range(4):
                        for thing in product(range(len(house)), repeat=many):
                            self.assertIs(why_not_holds(house, arrows, room, ("ring", thing)), thing in rings)

    def test_what_is_told_holds_and_none_is_told_just_in_a_round(self):
        for house, arrows, room in cases():
            told = why_not(house, arrows, room)
            self.assertIs(told is None, in_round(house, arrows, room))
            self.assertIs(why_not_holds(house, arrows, room, told), told is not None)
            if told is not None and told[0] == "ring":
                for at in range(len(told[1])):
                    turned = told[1][at:] + told[1][:at]
                    self.assertIs(why_not_holds(house, arrows, room, ("ring", turned)), True)

    def test_a_ring_holds_where_a_room_is_gone_too(self):
        house = ((1, 2), (0, 1), (2,))
        self.assertEqual(why_not(house, (0, 0, 0), 0), ("gone", 2))
        self.assertIs(why_not_holds(house, (0, 0, 0), 0, ("gone", 2)), True)
        self.assertIs(why_not_holds(house, (0, 0, 0), 0, ("gone", 1)), False)
        self.assertIs(why_not_holds(house, (0, 0, 0), 0, ("ring", (2,))), True)
        self.assertIs(why_not_holds(house, (0, 0, 0), 0, ("ring", (1,))), True)
        self.assertIs(why_not_holds(house, (0, 0, 0), 0, ("ring", (0,))), False)

    def test_a_ring_that_can_not_be_come_to(self):
        house = ((0,), (2,), (1,))
        self.assertIs(in_round(house, (0, 0, 0), 0), True)
        self.assertIs(why_not_holds(house, (0, 0, 0), 0, ("ring", (1, 2))), False)

    def test_bent_papers(self):
        house, arrows = ((1, 0), (0, 2), (0, 1)), (0, 0, 0)
        self.assertIs(why_not_holds(house, arrows, 0, ("ring", (2, 1))), True)
        for thing in (
            ["ring", (1, 2)], ("ring", [1, 2]), ("ring", (1, 2), 0), ("ring",), ("ring", 1), ("ring", ()), ("Ring", (1, 2)),
            ("gone", (1, 2)), ("gone", 1), ("gone", 0), ("gone", None), ("gone", True), ("gone", 3), ("gone", -1),
            ("ring", (True, 2)), ("ring", (1, 2, 1)), ("ring", (1, 2, 1, 2)), ("ring", (1,)), ("ring", (0,)),
            ("ring", (1, "2")), ("ring", (1, None)), ("ring", "12"), ("ring", {1: 2}), (1, 2), ((1, 2), "ring"),
            (None, None), ("", (1, 2)), "ring", {"ring": (1, 2)}, (["ring"], (1, 2)), ({}, 1), ((), ()),
            ("ring", ((1, 2),)), ("ring", (1, 10 ** 99)), ("gone", 10 ** 99), ("gone", [1]), ("gone", {}),
        ):
            with self.subTest(thing=thing):
                self.assertIs(why_not_holds(house, arrows, 0, thing), False)
        self.assertIs(why_not_holds(PARTED, (0,) * 4, 0, ("gone", 1)), True)
        self.assertIs(why_not_holds(PARTED, (0,) * 4, 0, ("gone", True)), False)

    def test_things_of_every_kind(self):
        for house in (HOUSE, ((0,),), PARTED, ring_house(10)):
            things = things_of_every_kind()
            things += [(word, thing) for word in ("gone", "ring", "", None) for thing in things_of_every_kind()]
            kept = copy.deepcopy(things)
            for thing in things:
                right = False
                if house == PARTED and isinstance(thing, tuple) and thing[:1] == ("gone",):
                    right = type(thing[1]) is int and thing[1] in (1, 2)
                self.assertIs(why_not_holds(house, (0,) * len(house), 0, thing), right, (house, thing))
            self.assertEqual(things, kept)


class RefusedTest(unittest.TestCase):
    def test_not_shut_behind_arrows_and_room(self):
        asked = (round_of, turns_of, in_round, why_not, lambda *state: why_not_holds(*state, None))
        for ask in asked:
            for house in open_houses()[::9] + trapped_houses()[::4]:
                if not is_shut(house):
                    for room in range(len(house)):
                        self.assertEqual(refusal(ask, house, (0,) * len(house), room), (NotShut, {}))
            for house in (HOUSE, ((-1,),), ((-1, 1), (1,)), ring_house(10), path_house(10)):
                for room in no_rooms_of(house):
                    self.assertEqual(refusal(ask, house, (0,) * len(house), room), (NoRoom, {}))
                for arrows in no_arrows_of(house):
                    for room in (0, len(house), None):
                        self.assertEqual(refusal(ask, house, arrows, room), (NoArrows, {}))


if __name__ == "__main__":
    unittest.main()
