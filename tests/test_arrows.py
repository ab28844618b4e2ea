"""[1.4], [1.5]: what arrows are, how many there are, how they turn, and where the last doors lead."""

import copy
import unittest

from tests.things import (
    all_arrows, great_houses, houses, no_arrows_of, no_rooms_of, open_houses, path_house, refusal, ring_house,
    shut_houses, some_arrows, things_of_every_kind, trapped_houses,
)
from turnarrows.arrows import arrows_many, is_arrows, last_doors, turned_at
from turnarrows.errors import NoArrows, NoRoom

HOUSE = ((0, -1, 2), (-2,), (1, 1, 0, -3, 2, -1))


class IsArrowsTest(unittest.TestCase):
    def test_one_room_of_one_and_of_six_doors(self):
        self.assertEqual([is_arrows(((0,),), (number,)) for number in range(-2, 3)], [False, False, True, False, False])
        six = ((0, -1, 0, -2, 0, -3),)
        told = [is_arrows(six, (number,)) for number in range(-2, 9)]
        self.assertEqual(told, [False] * 2 + [True] * 6 + [False] * 3)

    def test_ten_rooms(self):
        one_door = ring_house(10)
        self.assertIs(is_arrows(one_door, (0,) * 10), True)
        self.assertIs(is_arrows(one_door, (0,) * 9), False)
        self.assertIs(is_arrows(one_door, (0,) * 11), False)
        six_doors = ((0, 1, 2, 3, 4, -1),) * 10
        self.assertIs(is_arrows(six_doors, (5,) * 10), True)
        self.assertIs(is_arrows(six_doors, (0, 1, 2, 3, 4, 5, 4, 3, 2, 1)), True)
        for room in range(10):
            for number in (6, -1):
                thing = (5,) * room + (number,) + (5,) * (9 - room)
                self.assertIs(is_arrows(six_doors, thing), False)

    def test_each_room_has_its_own_number_of_doors(self):
        self.assertIs(is_arrows(HOUSE, (2, 0, 5)), True)
        self.assertIs(is_arrows(HOUSE, (3, 0, 5)), False)
        self.assertIs(is_arrows(HOUSE, (2, 1, 5)), False)
        self.assertIs(is_arrows(HOUSE, (2, 0, 6)), False)

    def test_numbers_of_doors_and_not_where_they_lead(self):
        self.assertIs(is_arrows(((-1,),), (-1,)), False)
        self.assertIs(is_arrows(((1,), (0,)), (1, 0)), False)
        self.assertIs(is_arrows(((1,), (0,)), (0, 0)), True)

    def test_what_is_none(self):
        for house in (((0,),), ((-1,),), HOUSE, ring_house(10), path_house(10), ((0,) * 6,) * 10):
            things = no_arrows_of(house)
            kept = copy.deepcopy(things)
            for thing in things:
                with self.subTest(house=house, thing=thing):
                    self.assertIs(is_arrows(house, thing), False)
            self.assertEqual(things, kept)

    def test_things_of_every_kind(self):
        for house in (((0,),), ((1,), (0,)), HOUSE):
            for thing in things_of_every_kind():
                with self.subTest(house=house, thing=thing):
                    self.assertIs(is_arrows(house, thing), False)

    def test_just_as_many_as_are_told(self):
        for number, house in enumerate(houses()):
            if number % 7 == 0 and arrows_many(house) <= 200:
                told = all_arrows(house)
                self.assertEqual(len(told), arrows_many(house), house)
                self.assertTrue(all(is_arrows(house, arrows) is True for arrows in told), house)


class ArrowsManyTest(unittest.TestCase):
    def test_the_product_of_doors(self):
        self.assertEqual(arrows_many(((-1,),)), 1)
        self.assertEqual(arrows_many(((0,) * 6,)), 6)
        self.assertEqual(arrows_many(HOUSE), 18)
        self.assertEqual(arrows_many(ring_house(10)), 1)
        self.assertEqual(arrows_many(((0,) * 6,) * 10), 6 ** 10)


class TurnedAtTest(unittest.TestCase):
    def test_the_next_door_and_behind_the_last_one_the_first(self):
        self.assertEqual(turned_at(HOUSE, (0, 0, 0), 0), (1, 0, 0))
        self.assertEqual(turned_at(HOUSE, (1, 0, 0), 0), (2, 0, 0))
        self.assertEqual(turned_at(HOUSE, (2, 0, 0), 0), (0, 0, 0))
        self.assertEqual(turned_at(HOUSE, (2, 0, 4), 1), (2, 0, 4))
        self.assertEqual(turned_at(HOUSE, (2, 0, 4), 2), (2, 0, 5))
        self.assertEqual(turned_at(HOUSE, (2, 0, 5), 2), (2, 0, 0))

    def test_only_that_room(self):
        house = ((0, 1, -1),) * 10
        for room in range(10):
            told = turned_at(house, (1,) * 10, room)
            self.assertEqual(told, (1,) * room + (2,) + (1,) * (9 - room))
            self.assertIs(type(told), tuple)

    def test_as_often_as_a_room_has_doors_it_changes_nothing(self):
        for house in open_houses() + trapped_houses() + shut_houses()[::5]:
            for arrows in some_arrows(house, 3):
                for room, doors in enumerate(house):
                    seen = [arrows]
                    for _ in doors:
                        seen.append(turned_at(house, seen[-1], room))
                    self.assertEqual(seen[-1], arrows)
                    self.assertEqual(len(set(seen[:-1])), len(doors))
                    self.assertTrue(all(is_arrows(house, each) for each in seen))

    def test_refusals_in_their_order(self):
        for house in (((0,),), HOUSE, ring_house(10)):
            good = (0,) * len(house)
            for room in no_rooms_of(house):
                self.assertEqual(refusal(turned_at, house, good, room), (NoRoom, {}))
                self.assertEqual(refusal(turned_at, house, (9,) * len(house), room), (NoArrows, {}))
            for arrows in no_arrows_of(house):
                for room in (0, len(house) - 1, len(house), None):
                    self.assertEqual(refusal(turned_at, house, arrows, room), (NoArrows, {}))


class LastDoorsTest(unittest.TestCase):
    def test_rooms_and_gates(self):
        self.assertEqual(last_doors(HOUSE, (0, 0, 0)), (2, -2, -1))
        self.assertEqual(last_doors(HOUSE, (1, 0, 1)), (0, -2, 1))
        self.assertEqual(last_doors(HOUSE, (2, 0, 4)), (-1, -2, -3))
        self.assertEqual(last_doors(HOUSE, (2, 0, 5)), (-1, -2, 2))
        self.assertEqual(last_doors(((-3,),), (0,)), (-3,))

    def test_behind_a_leaving_it_is_the_door_that_the_arrow_showed(self):
        for house in open_houses() + trapped_houses():
            for arrows in some_arrows(house, 3):
                before = last_doors(house, arrows)
                self.assertIs(type(before), tuple)
                for room, doors in enumerate(house):
                    told = last_doors(house, turned_at(house, arrows, room))
                    self.assertEqual(told[room], doors[arrows[room]])
                    self.assertEqual(told[:room] + told[room + 1:], before[:room] + before[room + 1:])

    def test_no_arrows(self):
        for house in (((0,),), HOUSE, *great_houses()):
            for arrows in no_arrows_of(house):
                self.assertEqual(refusal(last_doors, house, arrows), (NoArrows, {}))


if __name__ == "__main__":
    unittest.main()
