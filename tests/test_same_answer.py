"""[0.2]: the same question has the same answer, and nothing that is handed in is changed."""

import copy
import unittest

from tests.things import great_houses, no_rooms_of, things_of_every_kind
from turnarrows.errors import ArrowError
from turnarrows.houses import (
    come_to, doors_many, gates_from, house_of, is_balanced, is_house, is_joined, is_open, is_shut, trap, trap_holds,
)

OF_HOUSES = (is_open, is_shut, is_joined, is_balanced, trap, doors_many, is_house)

CHOSEN = (
    ((0,),), ((-1,),), ((1,), (0,)), ((1,), (-1,)), ((-2,), (0,)), ((0,), (1,)), ((1, 1), (0,)),
    ((1, 2), (2, 0), (0, 1)), ((1, 2), (2, 0), (0, -3)), ((1,), (2,), (2,)),
) + tuple(great_houses())


def answer(asked, handed):
    """What is told, or the class and fields of the refusal."""
    try:
        return asked(*handed)
    except ArrowError as error:
        return (type(error), vars(error))


def questions():
    asked = [(ask, [house]) for house in CHOSEN for ask in OF_HOUSES]
    for house in CHOSEN:
        asked.append((house_of, [list(house)]))
        asked.append((house_of, [list(house) + [(0, len(house) + 2)]]))
        asked.extend((ask, [house, room]) for ask in (come_to, gates_from) for room in range(len(house)))
        asked.extend((ask, [house, thing]) for ask in (come_to, gates_from) for thing in no_rooms_of(house))
        asked.extend((trap_holds, [house, thing]) for thing in [(0,), (0, 1), (1, 2), *things_of_every_kind()])
    asked.extend((is_house, [thing]) for thing in things_of_every_kind())
    asked.extend((house_of, [[thing, (0,)]]) for thing in things_of_every_kind())
    return asked


class SameAnswerTest(unittest.TestCase):
    def test_asked_again_behind_others(self):
        asked = questions()
        first = [answer(ask, handed) for ask, handed in asked]
        backwards = [answer(ask, handed) for ask, handed in reversed(asked)]
        again = [answer(ask, handed) for ask, handed in questions()]
        self.assertEqual(first, backwards[::-1])
        self.assertEqual(first, again)

    def test_asked_again_at_once(self):
        for ask, handed in questions():
            self.assertEqual(answer(ask, handed), answer(ask, handed), (ask, handed))

    def test_what_is_handed_in_is_as_it_was(self):
        for ask, handed in questions():
            kept = copy.deepcopy(handed)
            answer(ask, handed)
            self.assertEqual(handed, kept, ask)

    def test_a_list_that_was_changed_is_asked_anew(self):
        things = [(1,), (0,)]
        self.assertEqual(house_of(things), ((1,), (0,)))
        things[1] = (-1,)
        self.assertEqual(house_of(things), ((1,), (-1,)))
        things.append((2,))
        self.assertEqual(house_of(things), ((1,), (-1,), (2,)))
        self.assertIs(is_open(house_of(things)), False)

    def test_a_list_within_what_is_handed_in_that_was_changed(self):
        doors = [0]
        self.assertIs(is_house((doors, (0,))), False)
        doors.clear()
        self.assertIs(is_house((doors, (0,))), False)
        rooms = [0]
        self.assertIs(trap_holds(((0,),), rooms), False)
        self.assertIs(trap_holds(((0,),), tuple(rooms)), True)

    def test_what_was_told_may_be_handed_in_again(self):
        house = house_of([(1,), (2,), (1,), (0, -1)])
        self.assertIs(is_house(house), True)
        self.assertEqual(trap(house), (0, 1, 2))
        self.assertIs(trap_holds(house, trap(house)), True)
        self.assertIs(trap_holds(house, come_to(house, 1)), True)
        self.assertEqual(come_to(house, come_to(house, 3)[-1]), (0, 1, 2, 3))


if __name__ == "__main__":
    unittest.main()
