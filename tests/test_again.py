"""[5.1] to [5.5]: arrows that come again, how many, which, and what walkers do to them."""

import unittest
from itertools import permutations
from math import prod

from tests.things import (
    all_arrows, no_arrows_of, no_gate_rooms, no_rooms_of, open_houses, path_house, refusal, ring_house, small_houses,
    some_arrows, trapped_houses, walked_out,
)
from turnarrows.again import again_after, again_many, all_again, comes_again, sent
from turnarrows.arrows import arrows_many, last_doors
from turnarrows.errors import NeverBack, NoArrows, NoRoom, NotOpen, TooGreat
from turnarrows.trees import ring_of, row_of

HOUSE = ((1, -1), (2, 0), (0, 1, -2))


def leads_out(house, arrows):
    """From each room, door by door."""
    last = last_doors(house, arrows)
    for room in range(len(house)):
        place = room
        for _ in range(len(house)):
            place = last[place] if place >= 0 else place
        if place >= 0:
            return False
    return True


def by_orders(house):
    """The determinant that the document tells, as the sum over all orders of columns."""
    rows = [
        [(len(doors) if room == other else 0) - doors.count(other) for other in range(len(house))]
        for room, doors in enumerate(house)
    ]
    told = 0
    for order in permutations(range(len(rows))):
        turns = sum(order[a] > order[b] for a in range(len(order)) for b in range(a + 1, len(order)))
        told += (-1) ** turns * prod(rows[at][column] for at, column in enumerate(order))
    return told


def some():
    small = [house for number, house in enumerate(small_houses()) if number % 17 == 0]
    return [house for house in small + open_houses() if no_gate_rooms(house) == ()]


def few():
    """Open houses with few enough arrows that each can be looked at."""
    return [house for house in some() if arrows_many(house) <= 400]


class ComesAgainTest(unittest.TestCase):
    def test_by_hand(self):
        self.assertIs(comes_again(HOUSE, (0, 0, 0)), True)
        self.assertIs(comes_again(HOUSE, (1, 0, 0)), False)
        self.assertIs(comes_again(((-1,),), (0,)), True)
        self.assertIs(comes_again(((0, -1),), (1,)), False)
        self.assertIs(comes_again(path_house(10), (0,) * 10), True)

    def test_where_last_doors_lead_out_and_as_the_papers_say(self):
        for house in some():
            for arrows in some_arrows(house, 8):
                told = comes_again(house, arrows)
                self.assertIs(told, leads_out(house, arrows))
                self.assertIs(told, row_of(house, arrows) is not None)
                self.assertIs(told, ring_of(house, arrows) is None)

    def test_they_do_come_again_and_others_do_not(self):
        for house in few()[::4]:
            if arrows_many(house) <= 40:
                for arrows in all_arrows(house):
                    # Walkers from all rooms, again and again: what is come to once more is come to for ever.
                    seen, now = [], arrows
                    for _ in range(60):
                        for room in range(len(house)):
                            now = walked_out(house, now, room)[1]
                        seen.append(now)
                    self.assertIs(comes_again(house, arrows), arrows in seen, (house, arrows))


class ManyTest(unittest.TestCase):
    def test_by_hand(self):
        self.assertEqual(again_many(((-1,),)), 1)
        self.assertEqual(again_many(((-1, -2, -3, -1, 0),)), 4)
        self.assertEqual(again_many(path_house(10)), 1)
        self.assertEqual(again_many(((-1,) * 6,) * 10), 6 ** 10)
        self.assertEqual(again_many(HOUSE), by_orders(HOUSE))

    def test_all_of_them_counted(self):
        for house in few():
            right = [arrows for arrows in all_arrows(house) if leads_out(house, arrows)]
            self.assertEqual(again_many(house), len(right))
            if len(right) <= 300:
                self.assertEqual(all_again(house), right)

    def test_the_determinant(self):
        for house in some():
            if len(house) <= 6:
                self.assertEqual(again_many(house), by_orders(house))

    def test_few_that_come_again_among_very_many(self):
        house = tuple((room, room, room, room, room, room + 1) for room in range(9)) + ((9, 9, 9, 9, 9, -1),)
        self.assertEqual(again_many(house), 1)
        self.assertEqual(all_again(house), [(0,) * 10])
        self.assertEqual(sent(house, 9), [0])

    def test_just_three_hundred_and_one_more(self):
        house = ((-1,) * 6, (-1,) * 5, (-2,) * 5, (-3,) * 2)
        self.assertEqual(again_many(house), 300)
        self.assertEqual(all_again(house), all_arrows(house))
        self.assertEqual(sorted(sent(house, 0)), list(range(300)))
        # 4 * 2 - 1 = 7 of the first two rooms, 6 * 4 * 2 - 5 = 43 of the others: 301 in all.
        more = ((-1, -1, -1, 1), (-1, 0), (3, 3, 3, 3, 3, -1), (4, -1, -1, -1), (2, -1))
        self.assertEqual(again_many(more), 301)
        self.assertEqual(refusal(all_again, more), (TooGreat, {"many": 301, "most": 300}))
        self.assertEqual(refusal(sent, more, 0), (TooGreat, {"many": 301, "most": 300}))
        self.assertEqual(refusal(all_again, ((-1,) * 6,) * 10), (TooGreat, {"many": 6 ** 10, "most": 300}))
        self.assertEqual(refusal(all_again, ((-1,) * 6, (-1,) * 6, (-1,) * 3, (-1,) * 3)),
                         (TooGreat, {"many": 324, "most": 300}))

    def test_a_told_list_is_the_askers_own(self):
        told = all_again(HOUSE)
        kept = list(told)
        told.clear()
        numbers = sent(HOUSE, 1)
        right = list(numbers)
        numbers.append(None)
        self.assertEqual(all_again(HOUSE), kept)
        self.assertEqual(sent(HOUSE, 1), right)


class SentTest(unittest.TestCase):
    def test_where_each_is_sent(self):
        for house in some():
            if again_many(house) <= 300:
                told = all_again(house)
                for room in range(len(house)):
                    numbers = sent(house, room)
                    self.assertEqual(numbers, [told.index(walked_out(house, each, room)[1]) for each in told])
                    self.assertEqual(sorted(numbers), list(range(len(told))))

    def test_two_rooms_in_both_orders(self):
        for house in few()[::3]:
            if again_many(house) <= 300:
                rows = [sent(house, room) for room in range(len(house))]
                for one in rows:
                    for other in rows:
                        self.assertEqual([one[number] for number in other], [other[number] for number in one])


class AgainAfterTest(unittest.TestCase):
    def test_walker_behind_walker(self):
        for house in few():
            for arrows in some_arrows(house, 6):
                if leads_out(house, arrows):
                    for room in range(len(house)):
                        now, many = walked_out(house, arrows, room)[1], 1
                        while now != arrows:
                            now, many = walked_out(house, now, room)[1], many + 1
                        self.assertEqual(again_after(house, arrows, room), many, (house, arrows, room))
                        self.assertEqual(again_many(house) % many, 0)

    def test_it_is_the_same_for_all(self):
        for house in few()[::3]:
            if again_many(house) <= 100:
                for room in range(len(house)):
                    self.assertEqual(len({again_after(house, arrows, room) for arrows in all_again(house)}), 1)

    def test_a_great_number(self):
        house = ((1, 1, -1), (2, 2, 2, -1), (3, 3, -1), (4, -1), (0, -1, -2))
        after = again_after(house, (0,) * 5, 0)
        self.assertEqual(again_many(house) % after, 0)
        now = (0,) * 5
        for _ in range(after):
            now = walked_out(house, now, 0)[1]
        self.assertEqual(now, (0,) * 5)

    def test_never_back(self):
        for house in some():
            for arrows in some_arrows(house, 8):
                if not leads_out(house, arrows):
                    for room in range(len(house)):
                        self.assertEqual(refusal(again_after, house, arrows, room), (NeverBack, {}))

    def test_walkers_from_each_room_bring_arrows_that_come_again(self):
        for house in few():
            for arrows in some_arrows(house, 4):
                now, rounds = arrows, 0
                while not comes_again(house, now):
                    rounds += 1
                    for room in range(len(house)):
                        now = walked_out(house, now, room)[1]
                    self.assertLess(rounds, 1000)


class RefusedTest(unittest.TestCase):
    def test_not_open(self):
        for house in trapped_houses():
            least = (NotOpen, {"room": no_gate_rooms(house)[0]})
            noughts = (0,) * len(house)
            self.assertEqual(refusal(comes_again, house, noughts), least)
            self.assertEqual(refusal(again_many, house), least)
            self.assertEqual(refusal(all_again, house), least)
            for room in range(len(house)):
                self.assertEqual(refusal(sent, house, room), least)
                self.assertEqual(refusal(again_after, house, noughts, room), least)

    def test_arrows_then_rooms_then_the_house(self):
        great = ((-1,) * 6,) * 10
        for house in (HOUSE, ((0,),), ring_house(10), path_house(10), great):
            noughts = (0,) * len(house)
            for arrows in no_arrows_of(house):
                self.assertEqual(refusal(comes_again, house, arrows), (NoArrows, {}))
                for room in (0, len(house), None):
                    self.assertEqual(refusal(again_after, house, arrows, room), (NoArrows, {}))
            for room in no_rooms_of(house):
                self.assertEqual(refusal(sent, house, room), (NoRoom, {}))
                self.assertEqual(refusal(again_after, house, noughts, room), (NoRoom, {}))


if __name__ == "__main__":
    unittest.main()
