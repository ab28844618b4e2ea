"""[8.1] to [8.5]: walkers like one another, gives, least rows, kinds, and settled rows."""

import unittest
from itertools import product
from math import prod
from random import Random

from tests.things import (
    all_led_out, no_gate_rooms, no_rooms_of, no_walkers_of, open_houses, path_house, refusal, small_houses,
    trapped_houses, walked_out,
)
from turnarrows.again import again_after, again_many, all_again, comes_again
from turnarrows.errors import NoRoom, NotOpen, NoWalkers
from turnarrows.likes import (
    are_alike, behind_gives, how_many_kinds, kind_sizes, least_like, like_none, settled, why_alike,
)

MOST = 10 ** 30
HOUSE = ((1, -1), (0, -2))
THREE = ((1, 2, -1), (0, 2, 2, -2), (0, 0, 1, 1, -3, 2))


def some():
    small = [house for number, house in enumerate(small_houses()) if number % 31 == 0]
    return [house for house in small + open_houses() if no_gate_rooms(house) == ()]


def few(most=40):
    """Open houses with few kinds of walkers."""
    return [house for house in some() if again_many(house) <= most and len(house) <= 4]


def by_gives(house, walkers, gives):
    """Door by door."""
    told = list(walkers)
    for room, many in enumerate(gives):
        for door in house[room]:
            told[room] -= many
            if door >= 0:
                told[door] += many
    return tuple(told)


def sends(house, walkers):
    return [all_led_out(house, arrows, walkers)[1] for arrows in all_again(house)]


def settled_by(house, walkers, choose):
    """One room, one giving at a time."""
    standing, gave = tuple(walkers), [0] * len(house)
    while True:
        full = [room for room, doors in enumerate(house) if standing[room] >= len(doors)]
        if not full:
            return (standing, tuple(gave))
        room = choose(full)
        gave[room] += 1
        standing = by_gives(house, standing, [int(at == room) for at in range(len(house))])


def settled_by_halves(house, walkers):
    """Of very many: the half of them twice, and the odd ones."""
    if sum(walkers) <= 60:
        return settled_by(house, walkers, min)
    half, gave = settled_by_halves(house, tuple(many // 2 for many in walkers))
    left = tuple(2 * stood + many % 2 for stood, many in zip(half, walkers))
    behind, more = settled_by(house, left, min)
    return (behind, tuple(2 * one + other for one, other in zip(gave, more)))


def drawn_rows(seed, most, each=1):
    draw = Random(seed)
    for house in some()[::each]:
        yield house, tuple(draw.choice((0, draw.randint(0, most), draw.randint(0, 9))) for _ in house), draw


class GivesTest(unittest.TestCase):
    def test_by_hand(self):
        self.assertEqual(behind_gives(HOUSE, (5, 0), (0, 0)), (5, 0))
        self.assertEqual(behind_gives(HOUSE, (5, 0), (1, 0)), (3, 1))
        self.assertEqual(behind_gives(HOUSE, (5, 0), (0, 1)), (6, -2))
        self.assertEqual(behind_gives(HOUSE, (5, 0), (-1, 0)), (7, -1))
        self.assertEqual(behind_gives(((0, 0, -1),), (0,), (4,)), (-4,))
        self.assertEqual(behind_gives(HOUSE, (MOST, MOST), (-MOST, MOST)), (4 * MOST, -2 * MOST))

    def test_door_by_door(self):
        for house, walkers, draw in drawn_rows(41, MOST):
            gives = tuple(draw.randint(-50, 50) for _ in house)
            told = behind_gives(house, walkers, gives)
            self.assertEqual(told, by_gives(house, walkers, gives))
            self.assertIs(type(told), tuple)


class AlikeTest(unittest.TestCase):
    def test_by_hand(self):
        # Three kinds: those of room 0 and twice those of room 1 count alike.
        self.assertIs(are_alike(HOUSE, (1, 0), (0, 2)), True)
        self.assertEqual(why_alike(HOUSE, (1, 0), (0, 2)), (0, -1))
        self.assertIs(are_alike(HOUSE, (1, 0), (0, 1)), False)
        self.assertIsNone(why_alike(HOUSE, (1, 0), (0, 1)))
        self.assertEqual(why_alike(HOUSE, (3, 0), (0, 0)), (2, 1))
        self.assertEqual(why_alike(HOUSE, (0, 0), (3, 0)), (-2, -1))
        self.assertEqual(why_alike(HOUSE, (MOST, 7), (MOST, 7)), (0, 0))

    def test_by_walking(self):
        for house in few()[::3]:
            rows = list(product(range(3), repeat=len(house)))[::2]
            sent_to = [sends(house, row) for row in rows]
            for one, first in zip(rows, sent_to):
                for other, second in list(zip(rows, sent_to))[::3]:
                    self.assertIs(are_alike(house, one, other), first == second, (house, one, other))

    def test_the_gives_show_it(self):
        for house, walkers, draw in drawn_rows(42, MOST):
            gives = tuple(draw.randint(-10 ** 20, 10 ** 20) for _ in house)
            other = behind_gives(house, walkers, gives)
            if all(0 <= many <= MOST for many in other):
                self.assertEqual(why_alike(house, walkers, other), gives)
            near = tuple(many + draw.randint(0, 3) for many in walkers)
            if max(near) <= MOST:
                told = why_alike(house, walkers, near)
                self.assertIs(told is not None, are_alike(house, walkers, near))
                self.assertIs(are_alike(house, near, walkers), told is not None)
                self.assertIs(told is not None, least_like(house, walkers) == least_like(house, near))
                if told is not None:
                    self.assertEqual(behind_gives(house, walkers, told), near)

    def test_sums_of_alike_rows(self):
        for house, walkers, draw in drawn_rows(43, 10 ** 25, each=2):
            one, other = settled(house, walkers)[0], least_like(house, walkers)
            more = tuple(draw.randint(0, 10 ** 25) for _ in house)
            less = settled(house, more)[0]
            sums = [tuple(a + b for a, b in zip(*pair)) for pair in ((walkers, more), (one, less), (other, more))]
            for left, right in product(sums, repeat=2):
                self.assertIs(are_alike(house, left, right), True)


class LeastTest(unittest.TestCase):
    def test_by_hand(self):
        self.assertEqual(kind_sizes(HOUSE), (1, 3))
        self.assertEqual(how_many_kinds(HOUSE), 3)
        self.assertEqual([least_like(HOUSE, (many, 0)) for many in range(4)], [(0, 0), (0, 2), (0, 1), (0, 0)])
        self.assertEqual([least_like(HOUSE, (0, many)) for many in range(4)], [(0, 0), (0, 1), (0, 2), (0, 0)])
        self.assertEqual(kind_sizes(((-1,) * 6, (-1, -2))), (6, 2))
        self.assertEqual(least_like(((-1,) * 6, (-1, -2)), (10 ** 30, 10 ** 30 - 1)), (10 ** 30 % 6, 1))
        self.assertEqual(kind_sizes(path_house(10)), (1,) * 10)

    def test_no_lesser_row_is_alike(self):
        for house in few(30):
            for walkers in list(product(range(4), repeat=len(house)))[::7]:
                told = least_like(house, walkers)
                self.assertIs(are_alike(house, walkers, told), True)
                self.assertTrue(all(many >= 0 for many in told))
                for row in product(range(max(max(told), 4) + 1), repeat=len(house)):
                    if row < told:
                        self.assertIs(are_alike(house, walkers, row), False, (house, walkers, row))

    def test_the_least_rows_are_just_those_within_the_sizes(self):
        for house in few(60):
            sizes = kind_sizes(house)
            self.assertIs(type(sizes), tuple)
            self.assertEqual(how_many_kinds(house), prod(sizes))
            for row in product(*[range(size) for size in sizes]):
                self.assertEqual(least_like(house, row), row)
            for room, size in enumerate(sizes):
                beyond = tuple(size if at == room else 0 for at in range(len(house)))
                self.assertNotEqual(least_like(house, beyond), beyond)

    def test_great_rows(self):
        for house, walkers, _ in drawn_rows(44, MOST):
            told = least_like(house, walkers)
            sizes = kind_sizes(house)
            self.assertTrue(all(0 <= many < size for many, size in zip(told, sizes)))
            self.assertIs(are_alike(house, walkers, told), True)
            self.assertEqual(behind_gives(house, walkers, why_alike(house, walkers, told)), told)
            self.assertIs(type(told), tuple)

    def test_as_many_kinds_as_arrows_come_again(self):
        for house in some():
            self.assertEqual(how_many_kinds(house), again_many(house))


class LikeNoneTest(unittest.TestCase):
    def test_by_hand(self):
        self.assertEqual([like_none(HOUSE, room) for room in (0, 1)], [3, 3])
        self.assertEqual([like_none(((-1,) * 6, (-1, 0)), room) for room in (0, 1)], [6, 12])
        self.assertEqual([like_none(path_house(10), room) for room in range(10)], [1] * 10)

    def test_the_least_number_that_is_alike_to_none(self):
        for house in few(60):
            noughts = (0,) * len(house)
            for room in range(len(house)):
                told = like_none(house, room)
                for many in range(1, told + 1):
                    row = tuple(many if at == room else 0 for at in range(len(house)))
                    self.assertIs(are_alike(house, row, noughts), many == told)
                self.assertEqual(how_many_kinds(house) % told, 0)

    def test_behind_so_many_walkers_arrows_are_as_they_were(self):
        for house in few(30):
            for room in range(len(house)):
                for arrows in all_again(house)[:5]:
                    now = arrows
                    for _ in range(like_none(house, room)):
                        now = walked_out(house, now, room)[1]
                    self.assertEqual(now, arrows)

    def test_as_again_after_tells(self):
        for house in some():
            for room in range(len(house)):
                arrows = (0,) * len(house)
                if comes_again(house, arrows):
                    self.assertEqual(like_none(house, room), again_after(house, arrows, room))


class SettledTest(unittest.TestCase):
    def test_by_hand(self):
        self.assertEqual(settled(HOUSE, (0, 0)), ((0, 0), (0, 0)))
        self.assertEqual(settled(HOUSE, (1, 1)), ((1, 1), (0, 0)))
        self.assertEqual(settled(HOUSE, (2, 0)), ((0, 1), (1, 0)))
        self.assertEqual(settled(HOUSE, (2, 1)), ((1, 0), (1, 1)))
        self.assertEqual(settled(((0, 0, -1),), (7,)), ((2,), (5,)))
        self.assertEqual(settled(((-1,),), (MOST,)), ((0,), (MOST,)))
        self.assertEqual(settled(((-1, -2, -3, -1, -1, -1),), (MOST,)), ((MOST % 6,), (MOST // 6,)))

    def test_whatever_room_gives_first(self):
        for house, walkers, draw in drawn_rows(45, 14):
            told = settled(house, walkers)
            for choose in (min, max, draw.choice):
                self.assertEqual(told, settled_by(house, walkers, choose), (house, walkers))
            self.assertEqual([type(part) for part in told], [tuple, tuple])

    def test_great_rows(self):
        for house, walkers, _ in drawn_rows(46, MOST):
            told = settled(house, walkers)
            self.assertEqual(told, settled_by_halves(house, walkers), (house, walkers))
            self.assertTrue(all(many < len(doors) for many, doors in zip(told[0], house)))
            self.assertEqual(behind_gives(house, walkers, told[1]), told[0])
            self.assertIs(are_alike(house, walkers, told[0]), True)

    def test_great_rows_in_a_house_that_is_left_slowly(self):
        house = tuple((0, 0, 0, room + 1, room + 1) for room in range(5)) + ((0, 0, 0, 0, -1),)
        for walkers in ((MOST,) * 6, (MOST, 0, 0, 0, 0, 0), (0, 0, 0, 0, 0, MOST)):
            self.assertEqual(settled(house, walkers), settled_by_halves(house, walkers))

    def test_all_small_rows_of_a_house(self):
        for walkers in product(range(7), repeat=3):
            self.assertEqual(settled(THREE, walkers), settled_by(THREE, walkers, max))


class RefusedTest(unittest.TestCase):
    def test_the_greatest_row_is_one(self):
        for house in (HOUSE, THREE, path_house(10)):
            great = (MOST,) * len(house)
            self.assertIs(are_alike(house, great, settled(house, great)[0]), True)
            self.assertIs(are_alike(house, least_like(house, great), great), True)

    def test_no_walkers_ahead_of_not_open(self):
        for house in (HOUSE, THREE, ((0,),), ((0,), (-1,)), path_house(10)):
            good = (0,) * len(house)
            for walkers in no_walkers_of(house, MOST):
                self.assertEqual(refusal(behind_gives, house, walkers, good), (NoWalkers, {}))
                self.assertEqual(refusal(are_alike, house, walkers, good), (NoWalkers, {}))
                self.assertEqual(refusal(are_alike, house, good, walkers), (NoWalkers, {}))
                self.assertEqual(refusal(why_alike, house, walkers, good), (NoWalkers, {}))
                self.assertEqual(refusal(why_alike, house, good, walkers), (NoWalkers, {}))
                self.assertEqual(refusal(least_like, house, walkers), (NoWalkers, {}))
                self.assertEqual(refusal(settled, house, walkers), (NoWalkers, {}))

    def test_no_room(self):
        for house in (HOUSE, THREE, ((0,),), path_house(10)):
            for room in no_rooms_of(house):
                self.assertEqual(refusal(like_none, house, room), (NoRoom, {}))

    def test_not_open(self):
        for house in trapped_houses():
            right = (NotOpen, {"room": no_gate_rooms(house)[0]})
            good = (0,) * len(house)
            self.assertEqual(refusal(behind_gives, house, good, good), right)
            self.assertEqual(refusal(are_alike, house, good, good), right)
            self.assertEqual(refusal(why_alike, house, good, good), right)
            self.assertEqual(refusal(least_like, house, good), right)
            self.assertEqual(refusal(settled, house, good), right)
            self.assertEqual(refusal(kind_sizes, house), right)
            self.assertEqual(refusal(how_many_kinds, house), right)
            for room in range(len(house)):
                self.assertEqual(refusal(like_none, house, room), right)


if __name__ == "__main__":
    unittest.main()
