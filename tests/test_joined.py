"""[1.3], [1.5]: joined and balanced houses, and how many doors there are."""

import unittest

from tests.things import houses, path_house, reached, ring_house
from turnarrows.houses import come_to, doors_many, is_balanced, is_joined, is_shut


def balanced(house):
    leads = [door for doors in house for door in doors]
    if any(door < 0 for door in leads):
        return False
    return all(leads.count(room) == len(house[room]) for room in range(len(house)))


class JoinedTest(unittest.TestCase):
    def test_joined(self):
        for house in (((-1,),), ((0,),), ((1,), (0,)), ((1, -1), (0, -2)), ring_house(10), ((1,), (2, 0), (0,))):
            with self.subTest(house=house):
                self.assertIs(is_joined(house), True)

    def test_not_joined(self):
        for house in (
            ((0,), (1,)), ((1,), (1,)), ((0,), (0,)), ((1,), (-1,)), ((-1,), (0,)), path_house(10),
            ((1,), (2,), (1,)), ((1,), (0,), (0, 1)), ((1,), (0,), (3,), (2,)),
        ):
            with self.subTest(house=house):
                self.assertIs(is_joined(house), False)

    def test_all_can_be_come_to_from_one_room_alone(self):
        for far in range(1, 4):
            # Room `far` leads to all others, and none of these back.
            house = tuple((0, 1, 2, 3) if room == far else (room,) for room in range(4))
            with self.subTest(far=far):
                self.assertEqual(come_to(house, far), (0, 1, 2, 3))
                self.assertIs(is_joined(house), False)
        self.assertIs(is_joined(((0, 1, 2), (1,), (2,))), False)

    def test_many_houses(self):
        for house in houses():
            self.assertIs(is_joined(house), all(all(row) for row in reached(house)), house)


class BalancedTest(unittest.TestCase):
    def test_balanced(self):
        for house in (
            ((0,),), ((0,) * 6,), ((1,), (0,)), ((0,), (1,)), ((0, 0, 1), (0,)), ((1, 1, 0), (0, 0)), ring_house(10),
            ((1, 2), (2, 0), (0, 1)), ((1, 2), (0,), (0,)), ((1,), (0,), (3, 3), (2, 2)),
        ):
            with self.subTest(house=house):
                self.assertIs(is_balanced(house), True)

    def test_with_a_gate(self):
        for house in (
            ((-1,),), ((-3, 0),), ((1,), (-2,)), ((1, 2), (2, 0), (0, -1)), ((1, 2), (2, 0), (0, 1, -3)),
            ((0,), (1,), (-1,)), ((1, -1), (0, 0)), ring_house(9)[:8] + ((0, -2),),
        ):
            with self.subTest(house=house):
                self.assertIs(is_balanced(house), False)

    def test_with_one_door_led_elsewhere(self):
        whole = ((1, 2), (2, 0), (0, 1))
        for room in range(3):
            for at in range(2):
                for door in (-3, -2, -1, 0, 1, 2):
                    doors = tuple(door if number == at else old for number, old in enumerate(whole[room]))
                    house = whole[:room] + (doors,) + whole[room + 1:]
                    with self.subTest(house=house):
                        self.assertIs(is_balanced(house), house == whole)

    def test_with_one_door_more(self):
        self.assertIs(is_balanced(((1, 2), (2, 0), (0, 1, 1))), False)
        self.assertIs(is_balanced(((1, 2), (2, 0), (0, 1, 2))), True)
        self.assertIs(is_balanced(((1, 1), (0,))), False)
        self.assertIs(is_balanced(((1,), (0, 0))), False)
        self.assertIs(is_balanced(((1, 1), (0, 0))), True)

    def test_as_many_doors_in_all_but_to_another_room(self):
        self.assertIs(is_balanced(((0, 1), (0,))), True)
        self.assertIs(is_balanced(((0, 1), (1,))), False)
        self.assertIs(is_balanced(((1, 1), (0, 1))), False)
        self.assertIs(is_balanced(((0, 0), (0,), (2,))), False)

    def test_many_houses(self):
        for house in houses():
            self.assertIs(is_balanced(house), balanced(house), house)


class BothTest(unittest.TestCase):
    def test_joined_and_balanced_both_or_neither(self):
        for house, told in (
            (((1, 2), (2, 0), (0, 1)), (True, True)),
            (((0, 1), (0, 0)), (True, False)),
            (((1, -1), (0,)), (True, False)),
            (((0,), (1,)), (False, True)),
            (((0,), (0,)), (False, False)),
            (((1,), (-1,)), (False, False)),
        ):
            with self.subTest(house=house):
                self.assertEqual((is_joined(house), is_balanced(house)), told)

    def test_a_balanced_house_all_of_which_is_come_to_from_one_room_is_joined(self):
        seen = 0
        for house in houses():
            rooms = tuple(range(len(house)))
            if is_balanced(house) and any(come_to(house, room) == rooms for room in rooms):
                seen += 1
                self.assertIs(is_joined(house), True, house)
                self.assertIs(is_shut(house), True, house)
        self.assertGreater(seen, 20)


class DoorsManyTest(unittest.TestCase):
    def test_all_doors_count(self):
        self.assertEqual(doors_many(((-1,),)), 1)
        self.assertEqual(doors_many(((0,) * 6,)), 6)
        self.assertEqual(doors_many(((0, 0, -1), (-1, -2), (1,))), 6)
        self.assertEqual(doors_many(((0,) * 6,) * 10), 60)
        self.assertEqual(doors_many(ring_house(10)), 10)

    def test_many_houses(self):
        for house in houses():
            told = doors_many(house)
            self.assertEqual(told, len([door for doors in house for door in doors]), house)
            self.assertIs(type(told), int)


if __name__ == "__main__":
    unittest.main()
