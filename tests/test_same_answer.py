"""[0.2]: the same question has the same answer, and nothing that is handed in is changed."""

import copy
import unittest

from tests.asked import answer, questions
from turnarrows.again import all_again, comes_again, sent
from turnarrows.back import back_walk, led_back, round_back
from turnarrows.houses import come_to, house_of, is_house, is_open, trap, trap_holds
from turnarrows.likes import are_alike, behind_gives, least_like, settled, why_alike
from turnarrows.rests import is_rest, left_by, rest
from turnarrows.rounds import in_round, why_not, why_not_holds
from turnarrows.shares import shares, shares_hold
from turnarrows.trees import ring_holds, ring_of, row_holds, row_of
from turnarrows.walks import out, walk, walk_wrong


def spoil(told):
    """Changes whatever can be changed in what was told."""
    if isinstance(told, tuple):
        for part in told:
            spoil(part)
    if isinstance(told, list):
        for part in told:
            spoil(part)
        told.append("spoilt")
        told.reverse()
    if isinstance(told, dict):
        for part in told.values():
            spoil(part)
        told["spoilt"] = True


class SameAnswerTest(unittest.TestCase):
    def test_asked_again_behind_others(self):
        asked = questions()
        first = [answer(ask, handed) for ask, handed in asked]
        backwards = [answer(ask, handed) for ask, handed in reversed(asked)]
        again = [answer(ask, handed) for ask, handed in questions()]
        self.assertEqual(first, backwards[::-1])
        self.assertEqual(first, again)

    def test_asked_again_behind_what_was_told_was_spoilt(self):
        for ask, handed in questions():
            kept = copy.deepcopy(handed)
            told = answer(ask, handed)
            right = copy.deepcopy(told)
            spoil(told)
            self.assertEqual(handed, kept, (ask, handed))
            self.assertEqual(answer(ask, handed), right, (ask, handed))

    def test_what_is_told_stays_when_what_was_handed_in_is_spoilt(self):
        for ask, handed in questions():
            told = answer(ask, handed)
            right = copy.deepcopy(told)
            spoil(handed)
            self.assertEqual(told, right, ask)

    def test_what_is_handed_in_is_as_it_was(self):
        for ask, handed in questions():
            kept = copy.deepcopy(handed)
            answer(ask, handed)
            self.assertEqual(handed, kept, ask)

    def test_a_list_that_was_changed_is_asked_anew(self):
        things = [(1,), (0,)]
        self.assertEqual(house_of(things), ((1,), (0,)))
        things[1] = (-1,)
        self.assertEqual(house_of(things), ((1,), (-1,)))
        things.append((2,))
        self.assertEqual(house_of(things), ((1,), (-1,), (2,)))
        self.assertIs(is_open(house_of(things)), False)

    def test_a_list_within_what_is_handed_in_that_was_changed(self):
        doors = [0]
        self.assertIs(is_house((doors, (0,))), False)
        doors.clear()
        self.assertIs(is_house((doors, (0,))), False)
        rooms = [0]
        self.assertIs(trap_holds(((0,),), rooms), False)
        self.assertIs(trap_holds(((0,),), tuple(rooms)), True)

    def test_what_was_told_may_be_handed_in_again(self):
        house = house_of([(1,), (2,), (1,), (0, -1)])
        self.assertIs(is_house(house), True)
        self.assertEqual(trap(house), (0, 1, 2))
        self.assertIs(trap_holds(house, trap(house)), True)
        self.assertIs(trap_holds(house, come_to(house, 1)), True)
        self.assertEqual(come_to(house, come_to(house, 3)[-1]), (0, 1, 2, 3))

    def test_walks_and_rests_may_be_handed_in_again(self):
        house = house_of([(1, -1), (0, 2, -2), (0, 0, 1)])
        arrows, places = walk(house, (0, 0, 0), 2, 50)
        self.assertIsNone(walk_wrong(house, (0, 0, 0), 2, places))
        self.assertEqual(out(house, arrows, 0)[0], walk(house, arrows, 0, 50)[1][-1])
        gates, behind, leavings = rest(house, arrows, (3, 0, 4))
        self.assertIs(is_rest(house, arrows, (3, 0, 4), leavings), True)
        stood = left_by(house, behind, (1, 1, 1), [0, 2])
        self.assertEqual(rest(house, stood[0], stood[1])[1], rest(house, behind, (1, 1, 1))[1])
        self.assertEqual(sum(gates), 7)

    def test_papers_rows_and_rings_may_be_handed_in_again(self):
        house = house_of([(1, -1), (0, 2, -2), (0, 0, 1)])
        for number, arrows in zip(sent(house, 1), all_again(house)):
            behind = all_again(house)[number]
            self.assertIs(comes_again(house, behind), True)
            self.assertEqual(led_back(house, behind, 1)[0], arrows)
            self.assertIs(row_holds(house, behind, row_of(house, behind)), True)
            self.assertIsNone(walk_wrong(house, arrows, 1, back_walk(house, behind, 1)))
        self.assertIs(ring_holds(house, (1, 1, 0), ring_of(house, (1, 1, 0))), True)
        shut = ((0, 1), (0, 2), (0, 1))
        self.assertIs(why_not_holds(shut, (0, 0, 0), 0, why_not(shut, (0, 0, 0), 0)), True)
        state = walk(shut, (0, 0, 0), 0, 30)
        self.assertIs(in_round(shut, state[0], state[1][-1]), True)
        self.assertIs(in_round(shut, *round_back(shut, state[0], state[1][-1])), True)

    def test_shares_and_rows_may_be_handed_in_again(self):
        house = house_of([(1, -1), (0, 2, -2), (0, 0, 1)])
        self.assertIs(shares_hold(house, -2, shares(house, -2)), True)
        walkers = (10 ** 30, 5, 0)
        behind, gives = settled(house, walkers)
        self.assertEqual(behind_gives(house, walkers, gives), behind)
        self.assertEqual(why_alike(house, walkers, behind), gives)
        self.assertIs(are_alike(house, least_like(house, walkers), behind), True)


if __name__ == "__main__":
    unittest.main()
