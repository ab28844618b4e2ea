"""[1.1]: what a house is, and houses made of lists of things."""

import copy
import unittest

from tests.things import houses, things_of_every_kind
from turnarrows.errors import ArrowError, NoHouse
from turnarrows.houses import house_of, is_house

GOOD_HOUSES = (
    ((0,),),
    ((-1,),),
    ((-2,),),
    ((-3,),),
    ((0, 0, 0, 0, 0, 0),),
    ((-1, -2, -3, 0, -1, -1),),
    ((1,), (0,)),
    ((1, 1, 1), (1, -1, 1, -1)),
    ((2, 1, 0), (0, 1, 2, -1, -2, -3), (2,)),
    ((9, 8, 7, 6, 5, 4),) + ((0,),) * 9,
    ((0,),) * 9 + ((9, 9, 9, -3, -2, -1),),
)

NO_ROOMS_OF_TWO = (
    (), (0,) * 7, (2,), (0, 2), (2, 0), (-4,), (0, -4), (-4, 0), (10 ** 99,), (-(10 ** 99),),
    (True,), (False,), (0, True), (False, 0), (None,), (0, None), ("0",), ("",), ("0", 0), (0, "1"),
    ([],), ([0],), ((),), ((0,),), (0, (1,)), ({},), ({0: 0},),
    [0], [0, 1], [], {}, {0: 0}, {0: 1, 1: 0}, "", "0", "01", None, True, False, 0, 1, -1,
)


def refused_at(test, things):
    with test.assertRaises(ArrowError) as taken:
        house_of(things)
    test.assertIs(type(taken.exception), NoHouse)
    return taken.exception.at


class IsHouseTest(unittest.TestCase):
    def test_houses_of_one_to_ten_rooms(self):
        for many in range(1, 11):
            with self.subTest(many=many):
                self.assertIs(is_house(((0,),) * many), True)
                self.assertIs(is_house(((many - 1,),) * many), True)

    def test_rooms_of_one_to_six_doors(self):
        for many in range(1, 7):
            with self.subTest(many=many):
                self.assertIs(is_house(((0,) * many,)), True)
                self.assertIs(is_house(((0,), (1,) * many, (-1,))), True)

    def test_good_houses(self):
        for house in GOOD_HOUSES:
            with self.subTest(house=house):
                self.assertIs(is_house(house), True)

    def test_many_houses(self):
        self.assertTrue(all(is_house(house) is True for house in houses()))

    def test_each_gate_and_no_other(self):
        told = [is_house(((door,),)) for door in range(-6, 3)]
        self.assertEqual(told, [False, False, False, True, True, True, True, False, False])

    def test_no_room_and_eleven(self):
        self.assertIs(is_house(()), False)
        self.assertIs(is_house(((0,),) * 11), False)
        self.assertIs(is_house(((10,),) * 11), False)
        self.assertIs(is_house(((0,),) * 40), False)

    def test_a_door_to_as_many_as_there_are_rooms(self):
        for many in range(1, 11):
            with self.subTest(many=many):
                self.assertIs(is_house(((0,),) * (many - 1) + ((many,),)), False)
                self.assertIs(is_house(((many,),) + ((0,),) * (many - 1)), False)

    def test_a_wrong_room_in_each_place(self):
        for room in NO_ROOMS_OF_TWO:
            with self.subTest(room=room):
                self.assertIs(is_house((room, (0,))), False)
                self.assertIs(is_house(((0,), room)), False)

    def test_a_wrong_door_in_each_place(self):
        for door in (3, -4, True, False, None, "0", "", [], [0], (), (0,), {}, 10 ** 99, -(10 ** 99)):
            for at in range(6):
                doors = (0,) * at + (door,) + (0,) * (5 - at)
                for room in range(3):
                    house = ((1,),) * room + (doors,) + ((2,),) * (2 - room)
                    with self.subTest(house=house):
                        self.assertIs(is_house(house), False)

    def test_lists_in_the_place_of_tuples(self):
        self.assertIs(is_house([(0,)]), False)
        self.assertIs(is_house([[0]]), False)
        self.assertIs(is_house(([0],)), False)
        self.assertIs(is_house(((0,), [1])), False)

    def test_things_of_every_kind(self):
        for thing in things_of_every_kind():
            with self.subTest(thing=thing):
                self.assertIs(is_house(thing), False)

    def test_what_is_handed_in_stays(self):
        things = things_of_every_kind() + [([0], (1,)), [[0], (1,)]]
        kept = copy.deepcopy(things)
        for thing in things:
            is_house(thing)
        self.assertEqual(things, kept)


class HouseOfTest(unittest.TestCase):
    def test_tells_a_tuple_of_tuples(self):
        for house in GOOD_HOUSES:
            with self.subTest(house=house):
                told = house_of(list(house))
                self.assertEqual(told, house)
                self.assertIs(type(told), tuple)
                self.assertEqual([type(doors) for doors in told], [tuple] * len(house))
                self.assertIs(is_house(told), True)

    def test_keeps_the_order_of_rooms_and_doors(self):
        self.assertEqual(house_of([(2, -1, 0), (1,), (0, 2, 2)]), ((2, -1, 0), (1,), (0, 2, 2)))

    def test_every_number_of_rooms(self):
        for many in range(1, 11):
            with self.subTest(many=many):
                self.assertEqual(house_of([(many - 1,)] * many), ((many - 1,),) * many)

    def test_none_at_all(self):
        self.assertEqual(refused_at(self, []), 0)

    def test_more_than_ten(self):
        for many in (11, 12, 30):
            with self.subTest(many=many):
                self.assertEqual(refused_at(self, [(0,)] * many), many)
                self.assertEqual(refused_at(self, [(many - 1, -3)] * many), many)

    def test_a_wrong_thing_is_told_ahead_of_too_many(self):
        for at in range(11):
            things = [(10,)] * 11
            things[at] = (11,)
            with self.subTest(at=at):
                self.assertEqual(refused_at(self, things), at)
        self.assertEqual(refused_at(self, [(0,)] * 11 + [None]), 11)
        self.assertEqual(refused_at(self, [[]] * 12), 0)

    def test_each_wrong_thing_in_each_place(self):
        for thing in NO_ROOMS_OF_TWO:
            with self.subTest(thing=thing):
                self.assertEqual(refused_at(self, [thing, (0,)]), 0)
                self.assertEqual(refused_at(self, [(1,), thing]), 1)

    def test_things_of_every_kind(self):
        # (-1,) and (-2, -1) are no houses, but rooms.
        for thing in [thing for thing in things_of_every_kind() if thing not in ((-1,), (-2, -1))]:
            with self.subTest(thing=thing):
                self.assertEqual(refused_at(self, [(0,), (-1, 3), thing, (2,)]), 2)

    def test_the_first_of_several(self):
        self.assertEqual(refused_at(self, [(0,), (1,), (4,), (), None]), 3)
        self.assertEqual(refused_at(self, [(0,), (1,), (5,), (), None]), 2)
        self.assertEqual(refused_at(self, [None] * 10), 0)

    def test_a_door_to_as_many_as_there_are_things(self):
        for many in range(1, 11):
            things = [(many - 1,)] * (many - 1) + [(0, many)]
            with self.subTest(many=many):
                self.assertEqual(refused_at(self, things), many - 1)

    def test_the_list_stays_and_may_be_changed_later(self):
        things = [(1, -1), (0,)]
        told = house_of(things)
        self.assertEqual(things, [(1, -1), (0,)])
        things[0] = (0,)
        things.append(None)
        self.assertEqual(told, ((1, -1), (0,)))
        self.assertEqual(house_of([(1, -1), (0,)]), ((1, -1), (0,)))

    def test_the_list_stays_where_it_is_refused(self):
        for things in ([], [(0,)] * 11, [(0,), [1], {"a": [None]}], [[0], (7,)]):
            kept = copy.deepcopy(things)
            with self.subTest(things=kept):
                refused_at(self, things)
                self.assertEqual(things, kept)

    def test_what_was_told_may_be_handed_in_again(self):
        told = house_of([(1, -1), (0, 0)])
        self.assertEqual(house_of(list(told)), told)


if __name__ == "__main__":
    unittest.main()
