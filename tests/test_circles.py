"""[9.4], [9.5]: how many tours there are, all of them, and the one of a number."""

import unittest
from itertools import product
from math import factorial, prod

from tests.things import (
    no_touring_houses, refusal, ring_house, some_arrows, things_of_every_kind, touring_houses,
)
from turnarrows.circles import tour_at, tours, tours_many
from turnarrows.errors import NoRow, NoTour, TooGreat
from turnarrows.houses import doors_many
from turnarrows.tours import come_round, doors_by, is_tour, tour_of

HOUSE = ((1, 2), (2, 0), (0, 1))
GREAT = tuple(tuple((room + door) % 10 for door in range(1, 7)) for room in range(10))


def all_tours(house):
    """Door by door, whatever comes of it, from the first door of room 0 on."""
    many = sum(len(doors) for doors in house)
    found = []

    def go_on(leavings, place):
        if len(leavings) == many:
            found.extend([list(leavings)] if place == 0 else [])
            return
        for door, there in enumerate(house[place]):
            if (place, door) not in leavings:
                go_on(leavings + [(place, door)], there)

    go_on([(0, 0)], house[0][0])
    return found


def by_choices(house):
    """The words of the document: a door of each room but room 0, and products."""
    ways = 0
    for chosen in product(*[range(len(doors)) for doors in house[1:]]):
        last = [None] + [doors[door] for doors, door in zip(house[1:], chosen)]
        ends = []
        for room in range(1, len(house)):
            for _ in house:
                room = last[room] if room else 0
            ends.append(room)
        ways += all(end == 0 for end in ends)
    return ways * prod(factorial(len(doors) - 1) for doors in house)


def few():
    return [house for house in touring_houses(many=60) if by_choices(house) <= 300]


class ToursTest(unittest.TestCase):
    def test_by_hand(self):
        self.assertEqual(tours_many(((0,),)), 1)
        self.assertEqual(tours(((0,),)), [[(0, 0)]])
        self.assertEqual(tours_many(HOUSE), 3)
        self.assertEqual(tours(ring_house(10)), [[(room, 0) for room in range(10)]])
        self.assertEqual(tours(((0, 0, 0),)), [[(0, 0), (0, 1), (0, 2)], [(0, 0), (0, 2), (0, 1)]])

    def test_of_one_room(self):
        for many in range(1, 7):
            house = ((0,) * many,)
            self.assertEqual(tours_many(house), factorial(many - 1))
            self.assertEqual(tours(house), all_tours(house))

    def test_all_of_them_in_their_order(self):
        seen = 0
        for house in few():
            right = all_tours(house)
            self.assertEqual(right, sorted(right))
            told = tours(house)
            self.assertEqual(told, right)
            self.assertEqual(tours_many(house), len(right))
            self.assertTrue(all(is_tour(house, tour) is True and tour[0] == (0, 0) for tour in told))
            self.assertEqual([tour_at(house, number) for number in range(len(right))], right)
            seen += len(right) > 1
        self.assertGreater(seen, 15)

    def test_as_many_as_the_words_say(self):
        for house in touring_houses(many=60):
            self.assertEqual(tours_many(house), by_choices(house))

    def test_a_tour_of_arrows_is_among_them(self):
        for house in few():
            told = tours(house)
            for arrows in some_arrows(house, 5):
                tour = tour_of(house, *come_round(house, arrows, 0)[1:])
                at = tour.index((0, 0))
                self.assertIn(tour[at:] + tour[:at], told)

    def test_lists_are_the_askers_own(self):
        told = tours(HOUSE)
        right = [list(tour) for tour in told]
        told[0].append(None)
        told.pop()
        one = tour_at(HOUSE, 1)
        one.clear()
        self.assertEqual(tours(HOUSE), right)
        self.assertEqual(tour_at(HOUSE, 1), right[1])


class GreatTest(unittest.TestCase):
    def test_too_great(self):
        # 2 * 2 * 2 * 2 * 2 * 2 * 2 * 2 = 256 are told, twice as many are not.
        house = tuple(((room + 1) % 8, room, room) for room in range(8))
        self.assertEqual(tours_many(house), 256)
        told = tours(house)
        self.assertEqual((len(told), told), (256, sorted(told)))
        self.assertEqual(told[::15], [tour_at(house, number) for number in range(0, 256, 15)])
        more = tuple(((room + 1) % 9, room, room) for room in range(9))
        self.assertEqual(refusal(tours, more), (TooGreat, {"many": 512, "most": 300}))
        self.assertEqual(refusal(tours, GREAT), (TooGreat, {"many": tours_many(GREAT), "most": 300}))

    def test_just_three_hundred_and_few_more(self):
        # Two rings of five rooms, walked both ways, that share room 0, and a door from room 8 to itself.
        house = ((1, 4, 5, 8), (0, 2), (1, 3), (2, 4), (3, 0), (0, 6), (5, 7), (6, 8), (7, 0, 8))
        self.assertEqual(tours_many(house), 300)
        told = tours(house)
        self.assertEqual((len(told), told), (300, sorted(told)))
        self.assertTrue(all(is_tour(house, tour) for tour in told))
        self.assertEqual([tour_at(house, number) for number in (0, 77, 299)], [told[0], told[77], told[299]])
        more = ((6, 2), (2, 5, 5), (4, 6), (1, 1), (5, 3), (0, 0, 1), (3, 4))
        self.assertEqual(refusal(tours, more), (TooGreat, {"many": 304, "most": 300}))

    def test_by_number_beyond_three_hundred(self):
        house = ((0, 1, 1, 2, 0), (0, 2, 1, 0), (1, 2, 2, 0))
        right = all_tours(house)
        self.assertGreater(len(right), 300)
        self.assertEqual(tours_many(house), len(right))
        for number in list(range(0, len(right), 40)) + [len(right) - 1]:
            self.assertEqual(tour_at(house, number), right[number])
        self.assertEqual(refusal(tour_at, house, len(right)), (NoRow, {}))

    def test_sixty_doors(self):
        many = tours_many(GREAT)
        self.assertEqual(many % factorial(5) ** 10, 0)
        told = [tour_at(GREAT, number) for number in (0, 1, many // 7, many // 2, many - 2, many - 1)]
        self.assertEqual(told, sorted(told))
        self.assertEqual(len({tuple(tour) for tour in told}), 6)
        for tour in told:
            self.assertIs(is_tour(GREAT, tour), True)
            self.assertEqual((tour[0], len(tour)), ((0, 0), doors_many(GREAT)))
            anew = tour_of(doors_by(GREAT, tour), (0,) * 10, 0)
            self.assertEqual([room for room, _ in anew], [room for room, _ in tour])
        for thing in (many, many + 1, -1):
            self.assertEqual(refusal(tour_at, GREAT, thing), (NoRow, {}))


class RefusedTest(unittest.TestCase):
    def test_no_number_among_them(self):
        things = [3, 4, -1, 10 ** 99, -(10 ** 99), True, False, None, "", "0", [], [0], (), (0,), {}, {0: 0}]
        things += [thing for thing in things_of_every_kind() if type(thing) is not int or not 0 <= thing <= 2]
        for thing in things:
            with self.subTest(thing=thing):
                self.assertEqual(refusal(tour_at, HOUSE, thing), (NoRow, {}))
        self.assertEqual([refusal(tour_at, HOUSE, number) for number in range(4)], [None, None, None, (NoRow, {})])

    def test_no_tour_ahead_of_all_else(self):
        for house in no_touring_houses():
            self.assertEqual(refusal(tours_many, house), (NoTour, {}))
            self.assertEqual(refusal(tours, house), (NoTour, {}))
            for thing in (0, -1, None, "0"):
                self.assertEqual(refusal(tour_at, house, thing), (NoTour, {}))


if __name__ == "__main__":
    unittest.main()
