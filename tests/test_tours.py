"""[9.1] to [9.3]: tours, walks that are tours, and houses by tours."""

import copy
import unittest

from tests.things import (
    all_arrows, no_arrows_of, no_rooms_of, no_touring_houses, one_step, refusal, ring_house, some_arrows,
    things_of_every_kind, touring_houses,
)
from turnarrows.arrows import arrows_many, last_doors
from turnarrows.errors import NoArrows, NoRoom, NoTour
from turnarrows.houses import doors_many, is_balanced, is_house, is_joined
from turnarrows.rounds import in_round, round_of, turns_of
from turnarrows.tours import come_round, doors_by, is_tour, on_ring, tour_of

HOUSE = ((1, 2), (2, 0), (0, 1))
TOUR = [(0, 0), (1, 0), (2, 0), (0, 1), (2, 1), (1, 1)]


def walked(house, arrows, room):
    """As many leavings as there are doors, and the state behind them."""
    leavings, place = [], room
    for _ in range(sum(len(doors) for doors in house)):
        leavings.append((place, arrows[place]))
        arrows, place = one_step(house, arrows, place)
    return leavings, arrows, place


def goes_round(house, leavings):
    """Of lists of rooms and doors alone: each once, each in the room to which the one ahead leads."""
    doors = sorted((room, door) for room in range(len(house)) for door in range(len(house[room])))
    follows = all(house[leavings[at - 1][0]][leavings[at - 1][1]] == leavings[at][0] for at in range(len(leavings)))
    return sorted(leavings) == doors and follows


def one_ring_through(house, arrows, room):
    """By last doors alone: from each room one comes to this one."""
    last = last_doors(house, arrows)
    for place in range(len(house)):
        seen = [place]
        for _ in house:
            seen.append(last[seen[-1]])
        if room not in seen:
            return False
    return True


class IsTourTest(unittest.TestCase):
    def test_by_hand(self):
        self.assertIs(is_tour(HOUSE, TOUR), True)
        self.assertIs(is_tour(((0,),), [(0, 0)]), True)
        self.assertIs(is_tour(((0, 0),), [(0, 1), (0, 0)]), True)
        self.assertIs(is_tour(((1,), (0,)), [(1, 0), (0, 0)]), True)
        self.assertIs(is_tour(ring_house(10), [(room, 0) for room in range(10)]), True)

    def test_begun_anew_with_another_of_its_doors(self):
        for house in touring_houses():
            arrows, room = come_round(house, (0,) * len(house), 0)[1:]
            tour = tour_of(house, arrows, room)
            for at in range(len(tour)):
                self.assertIs(is_tour(house, tour[at:] + tour[:at]), True)
            self.assertEqual(tour.count((0, 0)), 1)

    def test_bent_tours(self):
        self.assertIs(is_tour(HOUSE, TOUR), True)
        for at in range(6):
            self.assertIs(is_tour(HOUSE, TOUR[:at] + TOUR[at + 1:]), False)
            self.assertIs(is_tour(HOUSE, TOUR[:at] + [TOUR[at]] + TOUR[at:]), False)
            for thing in ((0, 2), (3, 0), (-1, 0), (0, -1), (True, 0), (0, True), (0,), (0, 0, 0), [0, 0], None, "00",
                          ("0", 0), (0, None), (0, [0]), ([0], 0), 0, {}, {0: 0}, (10 ** 99, 0), (0, 10 ** 99), ()):
                self.assertIs(is_tour(HOUSE, TOUR[:at] + [thing] + TOUR[at + 1:]), False)
            for other in range(6):
                bent = list(TOUR)
                bent[at], bent[other] = bent[other], bent[at]
                self.assertIs(is_tour(HOUSE, bent), at == other)
                bent[at] = bent[other]
                self.assertIs(is_tour(HOUSE, bent), at == other)
        for thing in (tuple(TOUR), [list(each) for each in TOUR], [], TOUR + TOUR, TOUR[::-1], [TOUR], {0: TOUR}):
            self.assertIs(is_tour(HOUSE, thing), False)

    def test_truths_are_no_numbers(self):
        self.assertIs(is_tour(((0,),), [(False, 0)]), False)
        self.assertIs(is_tour(((0,),), [(0, False)]), False)
        self.assertIs(is_tour(((1,), (0,)), [(0, 0), (True, 0)]), False)

    def test_a_way_that_does_not_come_back_to_its_beginning_or_breaks_off(self):
        house = ((0, 1), (1, 0))
        self.assertIs(is_tour(house, [(0, 0), (0, 1), (1, 0), (1, 1)]), True)
        self.assertIs(is_tour(house, [(0, 1), (1, 0), (1, 1), (0, 0)]), True)
        self.assertIs(is_tour(house, [(0, 0), (0, 1), (1, 1), (1, 0)]), False)
        self.assertIs(is_tour(house, [(0, 1), (1, 1), (1, 0), (0, 0)]), False)

    def test_things_of_every_kind(self):
        for house in (HOUSE, ((0,),), ring_house(10)):
            things = things_of_every_kind()
            kept = copy.deepcopy(things)
            for thing in things:
                self.assertIs(is_tour(house, thing), False)
                self.assertIs(is_tour(house, [thing] * doors_many(house)), False)
                self.assertEqual(refusal(doors_by, house, thing), (NoTour, {}))
                self.assertEqual(refusal(doors_by, house, [thing]), (NoTour, {}))
            self.assertEqual(things, kept)


class TourOfTest(unittest.TestCase):
    def test_by_hand(self):
        self.assertEqual(tour_of(HOUSE, (0, 0, 0), 0), TOUR)
        self.assertIsNone(tour_of(HOUSE, (0, 0, 1), 1))
        self.assertIsNone(tour_of(HOUSE, (1, 1, 0), 0))
        self.assertEqual(tour_of(HOUSE, (0, 0, 1), 0), [(0, 0), (1, 0), (2, 1), (1, 1), (0, 1), (2, 0)])
        self.assertEqual(tour_of(((0,),), (0,), 0), [(0, 0)])
        self.assertEqual(tour_of(((0, 0, 0),), (1,), 0), [(0, 1), (0, 2), (0, 0)])
        self.assertEqual(tour_of(ring_house(10), (0,) * 10, 4), [((4 + at) % 10, 0) for at in range(10)])

    def test_from_arrows_and_rooms(self):
        seen = 0
        for house in touring_houses():
            arrows_told = all_arrows(house) if arrows_many(house) <= 100 else some_arrows(house, 30)
            for arrows in arrows_told:
                for room in range(len(house)):
                    leavings, behind, place = walked(house, arrows, room)
                    right = one_ring_through(house, arrows, room)
                    self.assertIs(goes_round(house, leavings), right)
                    told = tour_of(house, arrows, room)
                    self.assertEqual(told, leavings if right else None)
                    self.assertIs(on_ring(house, arrows, room), right)
                    self.assertIs(in_round(house, arrows, room), right)
                    if right:
                        seen += 1
                        self.assertEqual((behind, place), (arrows, room))
                        self.assertIs(is_tour(house, told), True)
                        told.pop()
                        self.assertEqual(tour_of(house, arrows, room), leavings)
        self.assertGreater(seen, 300)


class ComeRoundTest(unittest.TestCase):
    def test_by_hand(self):
        self.assertEqual(come_round(((0,),), (0,), 0), (0, (0,), 0))
        self.assertEqual(come_round(HOUSE, (0, 0, 1), 0), (0, (0, 0, 1), 0))
        self.assertEqual(come_round(((0, 1), (0, 1)), (0, 0), 0), (2, (0, 0), 1))

    def test_the_first_time(self):
        for house in touring_houses():
            for arrows in some_arrows(house, 12):
                for room in range(len(house)):
                    steps, now, place = 0, arrows, room
                    while not one_ring_through(house, now, place):
                        now, place = one_step(house, now, place)
                        steps += 1
                    told = come_round(house, arrows, room)
                    self.assertEqual(told, (steps, now, place))
                    self.assertEqual([type(part) for part in told], [int, tuple, int])
                    self.assertIs(on_ring(house, told[1], told[2]), True)
                    self.assertEqual(round_of(house, arrows, room), (steps, doors_many(house)))
                    self.assertEqual(turns_of(house, arrows, room), (1,) * len(house))


class DoorsByTest(unittest.TestCase):
    def test_by_hand(self):
        self.assertEqual(doors_by(HOUSE, TOUR), HOUSE)
        self.assertEqual(doors_by(HOUSE, TOUR[1:] + TOUR[:1]), ((2, 1), (2, 0), (0, 1)))
        self.assertEqual(doors_by(((0,) * 6,), [(0, door) for door in (3, 1, 0, 2, 5, 4)]), ((0,) * 6,))

    def test_walked_anew_it_is_that_tour_but_for_the_numbers_of_doors(self):
        for house in touring_houses():
            for arrows in some_arrows(house, 6):
                arrows, room = come_round(house, arrows, 0)[1:]
                tour = tour_of(house, arrows, room)
                for at in range(0, len(tour), 2):
                    turned = tour[at:] + tour[:at]
                    told = doors_by(house, turned)
                    self.assertIs(is_house(told) and is_balanced(told) and is_joined(told), True)
                    self.assertEqual([sorted(doors) for doors in told], [sorted(doors) for doors in house])
                    anew = tour_of(told, (0,) * len(told), turned[0][0])
                    self.assertEqual([room for room, _ in anew], [room for room, _ in turned])
                    for place in range(len(house)):
                        own = [door for where, door in anew if where == place]
                        self.assertEqual(own, list(range(len(house[place]))))
                        order = [house[place][door] for where, door in turned if where == place]
                        self.assertEqual(list(told[place]), order)

    def test_what_is_no_tour(self):
        for thing in (TOUR[:-1], TOUR[::-1], tuple(TOUR), None, [], TOUR + TOUR, [None] * 6, "tour", {0: TOUR}):
            self.assertEqual(refusal(doors_by, HOUSE, thing), (NoTour, {}))

    def test_what_is_handed_in_stays(self):
        tour = list(TOUR)
        doors_by(HOUSE, tour)
        is_tour(HOUSE, tour)
        self.assertEqual(tour, TOUR)


class RefusedTest(unittest.TestCase):
    def test_no_tour_ahead_of_all_else(self):
        for house in no_touring_houses():
            noughts = (0,) * len(house)
            for arrows, room in ((noughts, 0), (None, 0), (noughts, None), (None, None)):
                for ask in (tour_of, on_ring, come_round):
                    self.assertEqual(refusal(ask, house, arrows, room), (NoTour, {}))
            for thing in (None, [], [(0, 0)], TOUR):
                self.assertEqual(refusal(is_tour, house, thing), (NoTour, {}))
                self.assertEqual(refusal(doors_by, house, thing), (NoTour, {}))

    def test_then_arrows_then_rooms(self):
        for house in (HOUSE, ((0,),), ring_house(10)):
            for ask in (tour_of, on_ring, come_round):
                for arrows in no_arrows_of(house):
                    for room in (0, len(house), None):
                        self.assertEqual(refusal(ask, house, arrows, room), (NoArrows, {}))
                for room in no_rooms_of(house):
                    self.assertEqual(refusal(ask, house, (0,) * len(house), room), (NoRoom, {}))


if __name__ == "__main__":
    unittest.main()
