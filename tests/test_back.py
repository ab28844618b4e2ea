"""[6.1] to [6.5]: steps, walks, rows of walkers and rounds led back."""

import unittest
from random import Random

from tests.things import (
    all_arrows, all_led_out, no_arrows_of, no_gate_rooms, no_rooms_of, no_walkers_of, one_step, open_houses,
    path_house, refusal, ring_house, shut_houses, small_houses, some_arrows, trapped_houses, walked_out,
)
from turnarrows.again import comes_again
from turnarrows.arrows import arrows_many, last_doors
from turnarrows.back import back_step, back_walk, came_from, led_back, led_back_all, round_back
from turnarrows.errors import NeverBack, NoArrows, NoRoom, NotOpen, NotShut, NoWalkers
from turnarrows.houses import is_shut
from turnarrows.rests import rest
from turnarrows.rounds import in_round
from turnarrows.walks import out, step, walk, walk_wrong

HOUSE = ((1, -1), (2, 0), (0, 1, -2))


def no_places_of(house):
    return [thing for thing in no_rooms_of(house) if type(thing) is not int or not -3 <= thing < 0]


def again_cases(most=8):
    """Open houses with arrows that come again."""
    small = [house for number, house in enumerate(small_houses()) if number % 29 == 0]
    for house in small + open_houses():
        if no_gate_rooms(house) == ():
            for arrows in some_arrows(house, most):
                if comes_again(house, arrows):
                    yield house, arrows


class CameFromTest(unittest.TestCase):
    def test_by_hand(self):
        self.assertEqual(came_from(HOUSE, (0, 0, 0), 0), [1])
        self.assertEqual(came_from(HOUSE, (1, 0, 2), 1), [0, 2])
        self.assertEqual(came_from(HOUSE, (0, 0, 0), -1), [0])
        self.assertEqual(came_from(HOUSE, (0, 0, 0), -2), [2])
        self.assertEqual(came_from(HOUSE, (0, 0, 0), -3), [])
        self.assertEqual(came_from(HOUSE, (0, 0, 0), 2), [])
        self.assertEqual(came_from(((0,),) * 10, (0,) * 10, 0), list(range(10)))

    def test_the_rooms_whose_last_door_leads_there(self):
        for house in open_houses() + trapped_houses():
            for arrows in some_arrows(house, 3):
                last = last_doors(house, arrows)
                for place in range(-3, len(house)):
                    told = came_from(house, arrows, place)
                    self.assertEqual(told, [room for room in range(len(house)) if last[room] == place])
                    told.append(None)
                    self.assertEqual(came_from(house, arrows, place), told[:-1])


class BackStepTest(unittest.TestCase):
    def test_by_hand(self):
        self.assertEqual(back_step(HOUSE, (0, 0, 0), 0, 1), (0, 1, 0))
        self.assertEqual(back_step(HOUSE, (0, 1, 0), 2, 1), (0, 0, 0))
        self.assertEqual(back_step(HOUSE, (0, 0, 0), -2, 2), (0, 0, 2))
        self.assertEqual(refusal(back_step, HOUSE, (0, 0, 0), 2, 1), (NeverBack, {}))
        self.assertEqual(refusal(back_step, HOUSE, (0, 0, 0), -3, 1), (NeverBack, {}))

    def test_each_step_is_undone(self):
        for house in open_houses() + trapped_houses() + shut_houses()[::10]:
            for arrows in some_arrows(house, 4):
                for room in range(len(house)):
                    behind, place = step(house, arrows, room)
                    self.assertEqual(back_step(house, behind, place, room), arrows)
                    self.assertIn(room, came_from(house, behind, place))

    def test_a_step_from_there_leads_here(self):
        for house in open_houses()[::2] + trapped_houses():
            for arrows in some_arrows(house, 3):
                for place in range(-3, len(house)):
                    rooms = came_from(house, arrows, place)
                    for room in range(len(house)):
                        if room in rooms:
                            ahead = back_step(house, arrows, place, room)
                            self.assertEqual(one_step(house, ahead, room), (arrows, place))
                        else:
                            self.assertEqual(refusal(back_step, house, arrows, place, room), (NeverBack, {}))


class LedBackTest(unittest.TestCase):
    def test_by_hand(self):
        self.assertEqual(led_back(((-1,),), (0,), 0), ((0,), (1,)))
        self.assertEqual(led_back(((0, -1),), (0,), 0), ((0,), (2,)))
        self.assertEqual(back_walk(((0, -1),), (0,), 0), [0, -1])
        self.assertEqual(back_walk(path_house(10), (0,) * 10, 6), [7, 8, 9, -2])
        self.assertEqual(led_back(((-1, -2, -3),), (1,), 0), ((0,), (1,)))

    def test_led_out_again_it_comes_to_the_arrows_handed_in(self):
        for house, arrows in again_cases():
            for room in range(len(house)):
                ahead, leavings = told = led_back(house, arrows, room)
                self.assertIs(comes_again(house, ahead), True)
                gate, behind, left = walked_out(house, ahead, room)
                self.assertEqual((behind, left), (arrows, leavings))
                self.assertEqual([type(part) for part in told], [tuple, tuple])
                places = back_walk(house, arrows, room)
                self.assertIsNone(walk_wrong(house, ahead, room, places))
                self.assertEqual(walk(house, ahead, room, 2000), (arrows, places))
                self.assertEqual((len(places), places[-1]), (sum(leavings), gate))
                self.assertIs(type(places), list)

    def test_out_is_undone(self):
        for house, arrows in again_cases():
            for room in range(len(house)):
                gate, behind, leavings = out(house, arrows, room)
                self.assertEqual(led_back(house, behind, room), (arrows, leavings))

    def test_there_is_just_one(self):
        for house, arrows in again_cases(most=3):
            if arrows_many(house) <= 30:
                for room in range(len(house)):
                    ahead = [each for each in all_arrows(house)
                             if comes_again(house, each) and walked_out(house, each, room)[1] == arrows]
                    self.assertEqual([led_back(house, arrows, room)[0]], ahead)

    def test_the_walk_undone_step_by_step(self):
        for house, arrows in again_cases(most=4):
            for room in range(len(house)):
                places = [room] + back_walk(house, arrows, room)
                now = arrows
                for place, ahead in reversed(list(zip(places[1:], places))):
                    now = back_step(house, now, place, ahead)
                self.assertEqual(now, led_back(house, arrows, room)[0])

    def test_a_long_walk(self):
        house = tuple((0, room + 1) for room in range(9)) + ((0, -1),)
        self.assertEqual(led_back(house, (0,) * 10, 0), ((0,) * 10, tuple(2 ** (10 - room) for room in range(10))))
        self.assertEqual(back_walk(house, (0,) * 10, 0), walk(house, (0,) * 10, 0, 5000)[1])

    def test_a_told_list_is_the_askers_own(self):
        places = back_walk(HOUSE, (0, 0, 0), 1)
        kept = list(places)
        places.clear()
        self.assertEqual(back_walk(HOUSE, (0, 0, 0), 1), kept)


class LedBackAllTest(unittest.TestCase):
    def test_nobody(self):
        for house, arrows in again_cases(most=3):
            noughts = (0,) * len(house)
            self.assertEqual(led_back_all(house, arrows, noughts), (arrows, noughts))

    def test_one_walker_as_led_back_tells(self):
        for house, arrows in again_cases(most=3):
            for room in range(len(house)):
                walkers = tuple(int(at == room) for at in range(len(house)))
                self.assertEqual(led_back_all(house, arrows, walkers), led_back(house, arrows, room))

    def test_led_out_in_any_order_they_come_to_the_arrows_handed_in(self):
        draw = Random(21)
        for house, arrows in again_cases(most=3):
            walkers = tuple(draw.choice((0, 1, 4)) for _ in house)
            ahead, leavings = led_back_all(house, arrows, walkers)
            self.assertIs(comes_again(house, ahead), True)
            self.assertEqual(rest(house, ahead, walkers)[1:], (arrows, leavings))
            self.assertEqual(all_led_out(house, ahead, walkers)[1:], (arrows, leavings))

    def test_a_rest_is_undone(self):
        draw = Random(22)
        for house, arrows in again_cases(most=3):
            walkers = tuple(draw.choice((0, 1, 7)) for _ in house)
            gates, behind, leavings = rest(house, arrows, walkers)
            self.assertEqual(led_back_all(house, behind, walkers), (arrows, leavings))

    def test_a_hundred_in_each_room(self):
        walkers = (100, 100, 100)
        ahead, leavings = led_back_all(HOUSE, (0, 0, 0), walkers)
        self.assertEqual(rest(HOUSE, ahead, walkers)[1:], ((0, 0, 0), leavings))


class RoundBackTest(unittest.TestCase):
    def test_by_hand(self):
        self.assertEqual(round_back(((0,),), (0,), 0), ((0,), 0))
        self.assertEqual(round_back(((0,) * 6,), (0,), 0), ((5,), 0))
        self.assertEqual(round_back(ring_house(10), (0,) * 10, 0), ((0,) * 10, 9))
        self.assertEqual(round_back(((1,), (0, 1)), (0, 1), 0), ((0, 0), 1))

    def test_each_state_in_its_round_has_just_one_ahead(self):
        for house in shut_houses():
            for arrows in some_arrows(house, 4):
                for room in range(len(house)):
                    if in_round(house, arrows, room):
                        told = round_back(house, arrows, room)
                        self.assertIs(in_round(house, *told), True)
                        self.assertEqual(one_step(house, *told), (arrows, room))
                        self.assertEqual([type(part) for part in told], [tuple, int])
                        self.assertEqual(round_back(house, *step(house, arrows, room)), (arrows, room))
                    else:
                        self.assertEqual(refusal(round_back, house, arrows, room), (NeverBack, {}))

    def test_a_whole_round_step_by_step(self):
        for house in (((0, 1), (0, 2), (0, 1)), ((1, 2, 0), (0,), (1, 1)), ((1, 1), (0,))):
            for arrows in all_arrows(house):
                for room in range(len(house)):
                    if in_round(house, arrows, room):
                        seen = [(arrows, room)]
                        state = one_step(house, arrows, room)
                        while state != (arrows, room):
                            seen.append(state)
                            state = one_step(house, *state)
                        for ahead in reversed(seen):
                            state = round_back(house, *state)
                            self.assertEqual(state, ahead)


class RefusedTest(unittest.TestCase):
    def test_never_back_where_the_arrows_do_not_come_again(self):
        for house in open_houses():
            for arrows in some_arrows(house, 8):
                if not comes_again(house, arrows):
                    for room in range(len(house)):
                        self.assertEqual(refusal(led_back, house, arrows, room), (NeverBack, {}))
                        self.assertEqual(refusal(back_walk, house, arrows, room), (NeverBack, {}))
                    for walkers in ((0,) * len(house), (1,) * len(house)):
                        self.assertEqual(refusal(led_back_all, house, arrows, walkers), (NeverBack, {}))

    def test_not_open(self):
        for house in trapped_houses():
            right = (NotOpen, {"room": no_gate_rooms(house)[0]})
            noughts = (0,) * len(house)
            for room in range(len(house)):
                self.assertEqual(refusal(led_back, house, noughts, room), right)
                self.assertEqual(refusal(back_walk, house, noughts, room), right)
            self.assertEqual(refusal(led_back_all, house, noughts, noughts), right)

    def test_not_shut(self):
        for house in open_houses() + trapped_houses():
            if not is_shut(house):
                for room in range(len(house)):
                    self.assertEqual(refusal(round_back, house, (0,) * len(house), room), (NotShut, {}))

    def test_places_and_rooms_that_are_none(self):
        for house in (HOUSE, ((0,),), ((-1,),), ring_house(10), path_house(10)):
            noughts = (0,) * len(house)
            for thing in no_places_of(house):
                self.assertEqual(refusal(came_from, house, noughts, thing), (NoRoom, {}))
                self.assertEqual(refusal(back_step, house, noughts, thing, 0), (NoRoom, {}))
                self.assertEqual(refusal(back_step, house, noughts, thing, None), (NoRoom, {}))
            for thing in no_rooms_of(house):
                for place in (-3, 0):
                    self.assertEqual(refusal(back_step, house, noughts, place, thing), (NoRoom, {}))
                for ask in (led_back, back_walk, round_back):
                    self.assertEqual(refusal(ask, house, noughts, thing), (NoRoom, {}))

    def test_no_arrows_and_no_walkers(self):
        for house in (HOUSE, ((0,),), ((-1,),), ring_house(10), path_house(10)):
            for arrows in no_arrows_of(house):
                for thing in (0, len(house), None):
                    for ask in (led_back, back_walk, round_back, came_from):
                        self.assertEqual(refusal(ask, house, arrows, thing), (NoArrows, {}))
                    self.assertEqual(refusal(back_step, house, arrows, thing, thing), (NoArrows, {}))
                    self.assertEqual(refusal(led_back_all, house, arrows, thing), (NoArrows, {}))
            for walkers in no_walkers_of(house):
                self.assertEqual(refusal(led_back_all, house, (0,) * len(house), walkers), (NoWalkers, {}))


if __name__ == "__main__":
    unittest.main()
