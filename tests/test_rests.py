"""[3.1] to [3.4]: many walkers led out, by whatever order, and the paper of a rest."""

import copy
import unittest
from itertools import product
from random import Random

from tests.things import (
    all_led_out, great_houses, houses, no_arrows_of, no_gate_rooms, no_rooms_of, no_walkers_of, one_step, open_houses,
    path_house, refusal, ring_house, some_arrows, things_of_every_kind, trapped_houses,
)
from turnarrows.errors import NoArrows, Nobody, NotOpen, NoWalkers
from turnarrows.rests import doors_used, is_rest, left_by, rest
from turnarrows.walks import out

OPEN = ((1, -1), (0, 2, -2), (0, 0, 1))


def drawn_walkers(draw, house, most):
    return tuple(draw.choice((0, 0, 1, draw.randint(0, most))) for _ in house)


def cases(seed, most=5, each=1):
    draw = Random(seed)
    for house in open_houses()[::each]:
        for arrows in some_arrows(house, 3):
            yield house, arrows, drawn_walkers(draw, house, most)


def order_by(house, arrows, walkers, choose):
    """A list of rooms that leaves nobody, each one chosen among those in which somebody stands."""
    standing = list(walkers)
    rooms = []
    while any(standing):
        room = choose([at for at, many in enumerate(standing) if many])
        rooms.append(room)
        standing[room] -= 1
        arrows, place = one_step(house, arrows, room)
        if place >= 0:
            standing[place] += 1
    return rooms


def counts(house, arrows, leavings):
    """How often each door is used, by turning it so often."""
    told = []
    for doors, arrow, many in zip(house, arrows, leavings):
        used = [0] * len(doors)
        for turn in range(many):
            used[(arrow + turn) % len(doors)] += 1
        told.append(tuple(used))
    return tuple(told)


def leaves_nobody(house, arrows, walkers, leavings):
    standing = list(walkers)
    for doors, used in zip(house, counts(house, arrows, leavings)):
        for door, times in zip(doors, used):
            if door >= 0:
                standing[door] += times
    return all(many <= left for many, left in zip(standing, leavings))


class RestTest(unittest.TestCase):
    def test_by_hand(self):
        self.assertEqual(rest(OPEN, (0, 0, 0), (1, 0, 0)), ((1, 0, 0), (0, 1, 0), (2, 1, 0)))
        self.assertEqual(rest(((-3,),), (0,), (100,)), ((0, 0, 100), (0,), (100,)))
        self.assertEqual(rest(((-1, -2, -3),), (1,), (5,)), ((1, 2, 2), (0,), (5,)))
        self.assertEqual(rest(path_house(10), (0,) * 10, (1,) * 10), ((0, 10, 0), (0,) * 10, tuple(range(1, 11))))

    def test_nobody(self):
        for house in open_houses():
            for arrows in some_arrows(house, 3):
                noughts = (0,) * len(house)
                self.assertEqual(rest(house, arrows, noughts), ((0, 0, 0), arrows, noughts))

    def test_one_walker_as_out_tells(self):
        for house in open_houses():
            arrows = some_arrows(house, 3)[-1]
            for room in range(len(house)):
                gate, behind, leavings = out(house, arrows, room)
                walkers = tuple(int(at == room) for at in range(len(house)))
                gates = tuple(int(gate == each) for each in (-1, -2, -3))
                self.assertEqual(rest(house, arrows, walkers), (gates, behind, leavings))

    def test_one_wholly_behind_the_other(self):
        for house, arrows, walkers in cases(1):
            told = rest(house, arrows, walkers)
            self.assertEqual(told, all_led_out(house, arrows, walkers))
            self.assertEqual([type(part) for part in told], [tuple] * 3)
            self.assertEqual(sum(told[0]), sum(walkers))

    def test_a_hundred_in_a_room(self):
        for house in (OPEN, ((1, -1), (0, 0, 0, -2, 1, 1)), ((1, 2, -3), (2, 0), (0, 0, -1))):
            for walkers in ((100,) + (0,) * (len(house) - 1), (100,) * len(house)):
                self.assertEqual(rest(house, (1,) * len(house), walkers), all_led_out(house, (1,) * len(house), walkers))

    def test_a_hundred_in_each_of_ten_rooms(self):
        house = ((9, 9, 9, 9, 9, 9),) + ((0,),) * 8 + ((0, 1, 2, 3, 4, -1),)
        told = rest(house, (0,) * 10, (100,) * 10)
        self.assertEqual(told[0], (1000, 0, 0))
        self.assertIs(is_rest(house, (0,) * 10, (100,) * 10, told[2]), True)

    def test_not_open(self):
        for house in trapped_houses():
            least = no_gate_rooms(house)[0]
            noughts = (0,) * len(house)
            for walkers in (noughts, (1,) * len(house)):
                self.assertEqual(refusal(rest, house, noughts, walkers), (NotOpen, {"room": least}))
                self.assertEqual(refusal(is_rest, house, noughts, walkers, noughts), (NotOpen, {"room": least}))
                self.assertEqual(refusal(is_rest, house, noughts, walkers, None), (NotOpen, {"room": least}))

    def test_refusals_in_their_order(self):
        asked = (
            rest, lambda house, arrows, walkers: left_by(house, arrows, walkers, [None]),
            lambda house, arrows, walkers: is_rest(house, arrows, walkers, None),
        )
        for ask in asked:
            for house in (((0,),), ((-1,),), OPEN, ring_house(10), path_house(10)):
                good = (0,) * len(house)
                for walkers in no_walkers_of(house):
                    kept = copy.deepcopy(walkers)
                    self.assertEqual(refusal(ask, house, good, walkers), (NoWalkers, {}))
                    self.assertEqual(refusal(ask, house, None, walkers), (NoArrows, {}))
                    self.assertEqual(walkers, kept)
                for arrows in no_arrows_of(house):
                    self.assertEqual(refusal(ask, house, arrows, good), (NoArrows, {}))
                    self.assertEqual(refusal(ask, house, arrows, (101,) * len(house)), (NoArrows, {}))


class LeftByTest(unittest.TestCase):
    def test_by_hand(self):
        self.assertEqual(left_by(OPEN, (0, 0, 0), (2, 0, 0), []), ((0, 0, 0), (2, 0, 0), (0, 0, 0)))
        self.assertEqual(left_by(OPEN, (0, 0, 0), (2, 0, 0), [0]), ((1, 0, 0), (1, 1, 0), (0, 0, 0)))
        self.assertEqual(left_by(OPEN, (0, 0, 0), (2, 0, 0), [0, 0]), ((0, 0, 0), (0, 1, 0), (1, 0, 0)))
        self.assertEqual(left_by(OPEN, (0, 2, 0), (2, 0, 0), [0, 1, 0]), ((0, 0, 0), (0, 0, 0), (1, 1, 0)))

    def test_in_houses_without_a_way_out(self):
        self.assertEqual(left_by(((0,),), (0,), (1,), [0] * 50), ((0,), (1,), (0, 0, 0)))
        told = left_by(ring_house(10), (0,) * 10, (100,) * 10, [3] * 100)
        self.assertEqual(told, ((0,) * 10, (100, 100, 100, 0, 200) + (100,) * 5, (0, 0, 0)))
        self.assertEqual(left_by(((0,), (-3,)), (0, 0), (1, 1), [0, 1, 0]), ((0, 0), (1, 0), (0, 0, 1)))

    def test_by_whatever_order_the_rest_is_come_to(self):
        draw = Random(2)
        for house, arrows, walkers in cases(3):
            gates, behind, leavings = rest(house, arrows, walkers)
            for choose in (min, max, draw.choice):
                rooms = order_by(house, arrows, walkers, choose)
                self.assertEqual(left_by(house, arrows, walkers, rooms), (behind, (0,) * len(house), gates))
                self.assertEqual(tuple(rooms.count(room) for room in range(len(house))), leavings)

    def test_nobody_left_there(self):
        self.assertEqual(refusal(left_by, OPEN, (0, 0, 0), (1, 0, 0), [1]), (Nobody, {"at": 0}))
        self.assertEqual(refusal(left_by, OPEN, (0, 0, 0), (1, 0, 0), [0, 0]), (Nobody, {"at": 1}))
        self.assertEqual(refusal(left_by, OPEN, (0, 0, 0), (1, 0, 0), [0, 1, 0, 0, None]), (Nobody, {"at": 3}))
        self.assertEqual(refusal(left_by, ring_house(10), (0,) * 10, (1,) * 10, [5, 5]), (Nobody, {"at": 1}))

    def test_what_is_no_room(self):
        for house in (OPEN, ((0,),), ring_house(10)):
            for thing in no_rooms_of(house):
                for ahead in ([], [0], [0, len(house) - 1]):
                    rooms = ahead + [thing, 0]
                    kept = copy.deepcopy(rooms)
                    told = refusal(left_by, house, (0,) * len(house), (9,) * len(house), rooms)
                    self.assertEqual(told, (Nobody, {"at": len(ahead)}))
                    self.assertEqual(rooms, kept)
        for thing in things_of_every_kind():
            if not (isinstance(thing, int) and not isinstance(thing, bool) and 0 <= thing < 3):
                told = refusal(left_by, OPEN, (0, 0, 0), (9, 9, 9), [1, thing])
                self.assertEqual(told, (Nobody, {"at": 1}))

    def test_walkers_led_out_in_two_parts(self):
        draw = Random(4)
        for house, arrows, walkers in cases(5, each=2):
            part = tuple(draw.randint(0, many) for many in walkers)
            other = tuple(many - taken for many, taken in zip(walkers, part))
            whole = rest(house, arrows, walkers)
            first = rest(house, arrows, part)
            second = rest(house, first[1], other)
            self.assertEqual(second[1], whole[1])
            for at in (0, 2):
                self.assertEqual(tuple(one + more for one, more in zip(first[at], second[at])), whole[at])


class DoorsUsedTest(unittest.TestCase):
    def test_by_hand(self):
        self.assertEqual(doors_used(OPEN, (0, 0, 0), (0, 0, 0)), ((0, 0), (0, 0, 0), (0, 0, 0)))
        self.assertEqual(doors_used(OPEN, (1, 2, 1), (1, 1, 1)), ((0, 1), (0, 0, 1), (0, 1, 0)))
        self.assertEqual(doors_used(OPEN, (1, 2, 1), (3, 2, 8)), ((1, 2), (1, 0, 1), (2, 3, 3)))
        self.assertEqual(doors_used(((-1,),), (0,), (7,)), ((7,),))

    def test_one_behind_the_other(self):
        draw = Random(6)
        for house in open_houses() + trapped_houses():
            for arrows in some_arrows(house, 3):
                leavings = tuple(draw.randint(0, 20) for _ in house)
                told = doors_used(house, arrows, leavings)
                self.assertEqual(told, counts(house, arrows, leavings))
                self.assertTrue(all(max(used) - min(used) <= 1 for used in told))
                self.assertEqual([type(told)] + [type(used) for used in told], [tuple] * (len(house) + 1))

    def test_forty_figures(self):
        great = 10 ** 39 + 1
        self.assertEqual(doors_used(((0, 1, -1), (-1,)), (1, 0), (3 * great + 1, great)), ((great, great + 1, great), (great,)))
        told = doors_used(((0,) * 6,), (5,), (6 * great + 4,))
        self.assertEqual(told, ((great + 1, great + 1, great + 1, great, great, great + 1),))

    def test_no_arrows(self):
        for house in (((0,),), OPEN, *great_houses()):
            for arrows in no_arrows_of(house):
                self.assertEqual(refusal(doors_used, house, arrows, (1,) * len(house)), (NoArrows, {}))


class IsRestTest(unittest.TestCase):
    def test_the_leavings_of_rest(self):
        for house, arrows, walkers in cases(7, most=30):
            self.assertIs(is_rest(house, arrows, walkers, rest(house, arrows, walkers)[2]), True)

    def test_one_number_otherwise(self):
        for house, arrows, walkers in cases(8, each=2):
            told = rest(house, arrows, walkers)[2]
            for room in range(len(house)):
                for more in (-1, 1, 2, len(house[room]), 6 * len(house[room]), 10 ** 40):
                    bent = told[:room] + (told[room] + more,) + told[room + 1:]
                    self.assertIs(is_rest(house, arrows, walkers, bent), False, (house, arrows, walkers, bent))

    def test_a_ring_left_once_more(self):
        # The counts fit, but the last doors lead round.
        house = ((1, -1), (0, -1))
        self.assertEqual(rest(house, (0, 0), (0, 0))[2], (0, 0))
        self.assertIs(is_rest(house, (0, 0), (0, 0), (0, 0)), True)
        self.assertIs(is_rest(house, (0, 0), (0, 0), (1, 1)), False)
        self.assertIs(is_rest(((0, -1),), (0,), (0,), (1,)), False)
        self.assertIs(is_rest(((0, -1),), (0,), (1,), (2,)), True)
        self.assertIs(is_rest(((0, -1),), (0,), (1,), (3,)), False)
        self.assertIs(is_rest(((1, -1), (2, -1), (0, -1)), (0, 0, 0), (0, 0, 0), (1, 1, 1)), False)

    def test_a_ring_of_rooms_without_a_leaving_does_no_harm(self):
        house = ((1, -1), (0, -1), (-2, 0))
        # The last doors of 0 and 1 lead round, but nobody leaves them.
        self.assertIs(is_rest(house, (1, 1, 0), (0, 0, 1), (0, 0, 1)), True)
        self.assertIs(is_rest(house, (1, 1, 0), (0, 0, 0), (0, 0, 0)), True)

    def test_of_all_small_tuples_just_one(self):
        for number, house in enumerate(houses()):
            if number % 60 == 0 and no_gate_rooms(house) == ():
                for arrows in some_arrows(house, 2):
                    walkers = (1, 0, 1)[:len(house)]
                    right = rest(house, arrows, walkers)[2]
                    for thing in product(range(7), repeat=len(house)):
                        self.assertIs(is_rest(house, arrows, walkers, thing), thing == right, (house, arrows, thing))

    def test_truths_lists_and_lengths(self):
        for thing in (
            [2, 1, 0], (2, True, 0), (2, 1, False), (2, 1), (2, 1, 0, 0), (), (2, 1, None), (2, 1, "0"), ("2", 1, 0),
            {0: 2, 1: 1, 2: 0}, ((2, 1, 0),), (2, 1, 0, False), (2, 1, [0]), (2, 1, -1), (2, 1, -3), "210", None,
            (10 ** 99, 1, 0), (2, 10 ** 99, 0), (-(10 ** 99), 1, 0),
        ):
            with self.subTest(thing=thing):
                self.assertIs(is_rest(OPEN, (0, 0, 0), (1, 0, 0), thing), False)
        self.assertIs(is_rest(OPEN, (0, 0, 0), (1, 0, 0), (2, 1, 0)), True)

    def test_things_of_every_kind(self):
        for house in (OPEN, ((-1,),), path_house(10)):
            things = things_of_every_kind()
            kept = copy.deepcopy(things)
            for thing in things:
                with self.subTest(house=house, thing=thing):
                    self.assertIs(is_rest(house, (0,) * len(house), (3,) * len(house), thing), False)
            self.assertEqual(things, kept)

    def test_no_lesser_number_leaves_nobody(self):
        for number, house in enumerate(houses()):
            if number % 40 == 0 and no_gate_rooms(house) == ():
                arrows = some_arrows(house, 2)[-1]
                walkers = (1, 2, 0)[:len(house)]
                right = rest(house, arrows, walkers)[2]
                for thing in product(range(8), repeat=len(house)):
                    if leaves_nobody(house, arrows, walkers, thing):
                        self.assertTrue(all(least <= many for least, many in zip(right, thing)), (house, thing))


if __name__ == "__main__":
    unittest.main()
