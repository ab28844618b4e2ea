"""[1.2]: what can be come to, open and shut houses, and traps."""

import copy
import unittest
from itertools import product

from tests.things import (
    gates_met, great_houses, houses, no_gate_rooms, no_rooms_of, path_house, ring_house, rooms_from,
    things_of_every_kind,
)
from turnarrows.errors import ArrowError, NoRoom
from turnarrows.houses import come_to, gates_from, is_open, is_shut, trap, trap_holds

# Room 0 leads into the ring of 1, 2, 3; room 4 leads out or to 0.
RING_AND_WAY_OUT = ((1,), (2,), (3,), (1,), (0, -2))


class ComeToTest(unittest.TestCase):
    def test_the_room_itself_is_among_them(self):
        self.assertEqual(come_to(((-1,),), 0), (0,))
        self.assertEqual(come_to(((0,),), 0), (0,))
        self.assertEqual(come_to(((1,), (-1,), (0,)), 2), (0, 1, 2))
        self.assertEqual(come_to(((1,), (-1,), (0,)), 1), (1,))

    def test_rooms_several_doors_away(self):
        self.assertEqual([come_to(RING_AND_WAY_OUT, room) for room in range(5)], [
            (0, 1, 2, 3), (1, 2, 3), (1, 2, 3), (1, 2, 3), (0, 1, 2, 3, 4),
        ])
        for room in range(10):
            with self.subTest(room=room):
                self.assertEqual(come_to(path_house(10), room), tuple(range(room, 10)))
                self.assertEqual(come_to(ring_house(10), room), tuple(range(10)))

    def test_they_rise_however_the_doors_lie(self):
        self.assertEqual(come_to(((3, 2, 1), (0,), (-1,), (2,)), 0), (0, 1, 2, 3))
        self.assertEqual(come_to(((3,), (0,), (1,), (2,)), 2), (0, 1, 2, 3))

    def test_doors_behind_the_first_one(self):
        self.assertEqual(come_to(((-1, -1, -1, -1, -1, 1), (1,)), 0), (0, 1))
        self.assertEqual(come_to(((0, 1, -1), (1, -3, 2), (-1,)), 0), (0, 1, 2))

    def test_gates_are_no_rooms(self):
        self.assertEqual(come_to(((-1,), (0,), (1,)), 0), (0,))
        self.assertEqual(come_to(((-1, -2, -3), (0,), (1,)), 1), (0, 1))

    def test_many_houses(self):
        for house in houses():
            for room in range(len(house)):
                told = come_to(house, room)
                self.assertEqual(told, rooms_from(house, room), (house, room))
                self.assertIs(type(told), tuple)


class GatesFromTest(unittest.TestCase):
    def test_rising_and_each_once(self):
        self.assertEqual(gates_from(((-1, -2, -3),), 0), (-3, -2, -1))
        self.assertEqual(gates_from(((-1, -1, -3, -3),), 0), (-3, -1))
        self.assertEqual(gates_from(((-1, 1), (-2, -1)), 0), (-2, -1))

    def test_gates_several_doors_away(self):
        self.assertEqual([gates_from(RING_AND_WAY_OUT, room) for room in range(5)], [(), (), (), (), (-2,)])
        for room in range(10):
            with self.subTest(room=room):
                self.assertEqual(gates_from(path_house(10), room), (-2,))
                self.assertEqual(gates_from(ring_house(10), room), ())

    def test_only_those_that_can_be_come_to(self):
        house = ((-1, 0), (-2, 0), (-3, 1))
        self.assertEqual([gates_from(house, room) for room in range(3)], [(-1,), (-2, -1), (-3, -2, -1)])

    def test_many_houses(self):
        for house in houses():
            for room in range(len(house)):
                told = gates_from(house, room)
                self.assertEqual(told, gates_met(house, room), (house, room))
                self.assertIs(type(told), tuple)


class NoRoomTest(unittest.TestCase):
    def test_what_is_no_room_is_refused(self):
        chosen = (((0,),), ((-1,),), ((1,), (0,)), RING_AND_WAY_OUT, ring_house(10), path_house(10))
        for asked in (come_to, gates_from):
            for house in chosen:
                for thing in no_rooms_of(house):
                    with self.subTest(asked=asked.__name__, house=house, thing=thing):
                        with self.assertRaises(ArrowError) as taken:
                            asked(house, thing)
                        self.assertIs(type(taken.exception), NoRoom)

    def test_what_is_refused_stays(self):
        for asked in (come_to, gates_from):
            for thing in no_rooms_of(RING_AND_WAY_OUT):
                kept = copy.deepcopy(thing)
                with self.assertRaises(NoRoom):
                    asked(RING_AND_WAY_OUT, thing)
                self.assertEqual(thing, kept)

    def test_the_last_room_is_one(self):
        for many in range(1, 11):
            self.assertEqual(come_to(path_house(many), many - 1), (many - 1,))
            self.assertEqual(gates_from(path_house(many), many - 1), (-2,))


class OpenAndShutTest(unittest.TestCase):
    def test_open(self):
        for house in (((-1,),), ((-3, 0),), ((1,), (-2,)), ((1,), (0, -1)), path_house(10)):
            with self.subTest(house=house):
                self.assertEqual((is_open(house), is_shut(house)), (True, False))

    def test_shut(self):
        for house in (((0,),), ((1,), (0,)), ((1, 1), (1,)), ring_house(10)):
            with self.subTest(house=house):
                self.assertEqual((is_open(house), is_shut(house)), (False, True))

    def test_neither(self):
        for house in (((-1, 1), (1,)), ((0,), (-1,)), RING_AND_WAY_OUT, ((0,), (1, -3)), ((0, 1), (1, 1, 1), (2, -2))):
            with self.subTest(house=house):
                self.assertEqual((is_open(house), is_shut(house)), (False, False))

    def test_each_gate_in_each_place_opens(self):
        for gate in (-1, -2, -3):
            for at in range(6):
                house = ((1,), (0,) * at + (gate,) + (0,) * (5 - at))
                with self.subTest(house=house):
                    self.assertEqual((is_open(house), is_shut(house)), (True, False))

    def test_many_houses(self):
        for house in houses():
            self.assertIs(is_open(house), all(gates_met(house, room) for room in range(len(house))), house)
            self.assertIs(is_shut(house), not any(door < 0 for doors in house for door in doors), house)


class TrapTest(unittest.TestCase):
    def test_all_rooms_from_which_no_gate_can_be_come_to(self):
        self.assertEqual(trap(RING_AND_WAY_OUT), (0, 1, 2, 3))
        self.assertEqual(trap(((-1, 1), (1,))), (1,))
        self.assertEqual(trap(((0,), (-1,), (2,), (-2, 0), (2, 0))), (0, 2, 4))
        self.assertEqual(trap(ring_house(10)), tuple(range(10)))

    def test_nothing_where_the_house_is_open(self):
        self.assertEqual(trap(((-1,),)), ())
        self.assertEqual(trap(path_house(10)), ())

    def test_many_houses(self):
        for house in houses():
            told = trap(house)
            self.assertEqual(told, no_gate_rooms(house), house)
            self.assertIs(type(told), tuple)
            self.assertIs(told == (), is_open(house), house)
            self.assertIs(trap_holds(house, told), told != (), house)


def holds(house, thing):
    """Of tuples of rooms: the words of the document, put one behind the other."""
    rising = all(thing[at] < thing[at + 1] for at in range(len(thing) - 1))
    return len(thing) > 0 and rising and all(door in thing for room in thing for door in house[room])


class TrapHoldsTest(unittest.TestCase):
    def test_those_that_hold(self):
        self.assertIs(trap_holds(((0,),), (0,)), True)
        self.assertIs(trap_holds(RING_AND_WAY_OUT, (1, 2, 3)), True)
        self.assertIs(trap_holds(RING_AND_WAY_OUT, (0, 1, 2, 3)), True)
        self.assertIs(trap_holds(ring_house(10), tuple(range(10))), True)
        self.assertIs(trap_holds(((0,), (1,), (-1,)), (1,)), True)
        self.assertIs(trap_holds(((0,), (1,), (-1,)), (0,)), True)

    def test_those_that_do_not(self):
        for thing in (
            (), (1,), (1, 2), (2, 3), (0, 1, 2), (0, 2, 3), (4,), (1, 2, 3, 4), (0, 1, 2, 3, 4),
            (1, 2, 3, 3), (1, 1, 2, 3), (3, 2, 1), (1, 3, 2), (2, 1, 3), (0, 0, 1, 2, 3),
            (True, 2, 3), (False, True, 2, 3), (0, True, 2, 3), (False, 1, 2, 3),
            [1, 2, 3], [0, 1, 2, 3], {1: 1, 2: 2, 3: 3}, "123", ((1, 2, 3),), ([1, 2, 3],),
            (1, 2, 3, 5), (1, 2, 3, 10 ** 99), (-1, 1, 2, 3), (-2, 0, 1, 2, 3, 4), (-5, 1, 2, 3), (1, 2, 3, None),
            (1, 2, "3"), (None, 1, 2, 3), (1, 2, 3, (0,)), ([], 1, 2, 3), ({}, 1, 2, 3),
        ):
            with self.subTest(thing=thing):
                self.assertIs(trap_holds(RING_AND_WAY_OUT, thing), False)

    def test_a_gate_is_no_room_that_may_stand_in_it(self):
        self.assertIs(trap_holds(((-1,),), (-1,)), False)
        self.assertIs(trap_holds(((-1, 0),), (-1, 0)), False)
        self.assertIs(trap_holds(((-1, 0),), (0,)), False)
        self.assertIs(trap_holds(((1,), (-2,)), (-2, 0, 1)), False)

    def test_one_door_that_leads_elsewhere_in_each_place(self):
        for door in (1, -1, -2, -3):
            for at in range(6):
                house = ((0,) * at + (door,) + (0,) * (5 - at), (0,))
                with self.subTest(house=house):
                    self.assertIs(trap_holds(house, (0,)), False)

    def test_things_of_every_kind(self):
        for house in (((-1,),), ((-1, 0), (0,)), ((1,), (2,), (3,), (0,)), RING_AND_WAY_OUT):
            things = things_of_every_kind()
            kept = copy.deepcopy(things)
            for thing in things:
                with self.subTest(house=house, thing=thing):
                    self.assertIs(trap_holds(house, thing), False)
            self.assertEqual(things, kept)

    def test_every_tuple_of_up_to_four_rooms(self):
        for number, house in enumerate(houses()):
            # Each fifth house: all of them take too long, and tell no more.
            if number % 5 == 0 and len(house) <= 3:
                for many in range(5):
                    for thing in product(range(len(house)), repeat=many):
                        self.assertIs(trap_holds(house, thing), holds(house, thing), (house, thing))

    def test_every_choice_of_rooms_of_greater_houses(self):
        for house in great_houses():
            for chosen in product((False, True), repeat=len(house)):
                thing = tuple(room for room, taken in enumerate(chosen) if taken)
                self.assertIs(trap_holds(house, thing), holds(house, thing), (house, thing))

    def test_where_anything_holds_the_house_is_not_open(self):
        for house in houses():
            for room in range(len(house)):
                self.assertIs(trap_holds(house, come_to(house, room)), gates_from(house, room) == (), (house, room))
                if trap_holds(house, come_to(house, room)):
                    self.assertIs(is_open(house), False, house)


if __name__ == "__main__":
    unittest.main()
