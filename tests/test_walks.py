"""[2.1] to [2.5]: one walker's steps, its walk, its way out, and a look at a told walk."""

import copy
import unittest

from tests.things import (
    great_houses, no_arrows_of, no_gate_rooms, no_rooms_of, one_step, open_houses, path_house, refusal, ring_house,
    shut_houses, some_arrows, things_of_every_kind, trapped_houses, walked_out,
)
from turnarrows.arrows import turned_at
from turnarrows.errors import NoArrows, NoRoom, NotOpen
from turnarrows.walks import out, step, walk, walk_wrong

OPEN = ((1, -1), (0, 2, -2), (0, 0, 1))
NEITHER = ((1, -1), (2,), (2, 1))
KINDS = (((-1,),), ((0,),), OPEN, NEITHER, ((0, 1), (0, 0)), ring_house(10), path_house(10))


def all_houses():
    return open_houses()[::3] + trapped_houses() + shut_houses()[::15]


class StepTest(unittest.TestCase):
    def test_single_steps(self):
        self.assertEqual(step(OPEN, (0, 0, 0), 0), ((1, 0, 0), 1))
        self.assertEqual(step(OPEN, (1, 0, 0), 0), ((0, 0, 0), -1))
        self.assertEqual(step(OPEN, (1, 2, 0), 1), ((1, 0, 0), -2))
        self.assertEqual(step(OPEN, (1, 1, 2), 2), ((1, 1, 0), 1))
        self.assertEqual(step(((-3,),), (0,), 0), ((0,), -3))
        self.assertEqual(step(((0, -1),), (0,), 0), ((1,), 0))

    def test_each_door_of_each_room(self):
        for house in all_houses():
            for arrows in some_arrows(house, 5):
                for room in range(len(house)):
                    told = step(house, arrows, room)
                    self.assertEqual(told, one_step(house, arrows, room))
                    self.assertEqual(told[0], turned_at(house, arrows, room))
                    self.assertEqual((type(told), type(told[0])), (tuple, tuple))


class WalkTest(unittest.TestCase):
    def test_no_steps(self):
        for house in KINDS:
            arrows = (0,) * len(house)
            self.assertEqual(walk(house, arrows, 0, 0), (arrows, []))

    def test_one_and_many(self):
        self.assertEqual(walk(OPEN, (0, 0, 0), 0, 1), ((1, 0, 0), [1]))
        self.assertEqual(walk(OPEN, (0, 0, 0), 0, 2), ((1, 1, 0), [1, 0]))
        self.assertEqual(walk(OPEN, (0, 0, 0), 0, 3), ((0, 1, 0), [1, 0, -1]))
        self.assertEqual(walk(((0, 1), (0, 0)), (0, 0), 0, 6), ((0, 0), [0, 1, 0, 0, 1, 0]))

    def test_it_ends_early_with_a_gate(self):
        for steps in (3, 4, 100, 2000):
            self.assertEqual(walk(OPEN, (0, 0, 0), 0, steps), ((0, 1, 0), [1, 0, -1]))
        self.assertEqual(walk(((-1,),), (0,), 0, 2000), ((0,), [-1]))

    def test_two_thousand_steps_round(self):
        told = walk(ring_house(10), (0,) * 10, 7, 2000)
        self.assertEqual(told, ((0,) * 10, [(8 + at) % 10 for at in range(2000)]))
        arrows, places = walk(NEITHER, (0, 0, 0), 0, 2000)
        self.assertEqual((len(places), places[:7]), (2000, [1, 2, 2, 1, 2, 2, 1]))

    def test_step_by_step(self):
        for house in all_houses():
            for arrows in some_arrows(house, 3):
                for room in range(len(house)):
                    now, place, places = arrows, room, []
                    while place >= 0 and len(places) < 25:
                        now, place = one_step(house, now, place)
                        places.append(place)
                    told = walk(house, arrows, room, 25)
                    self.assertEqual(told, (now, places))
                    self.assertEqual((type(told), type(told[0]), type(told[1])), (tuple, tuple, list))

    def test_a_longer_walk_begins_with_a_shorter_one(self):
        for house in all_houses()[::2]:
            arrows = some_arrows(house, 2)[-1]
            whole = walk(house, arrows, 0, 40)[1]
            for steps in range(40):
                self.assertEqual(walk(house, arrows, 0, steps)[1], whole[:steps])

    def test_doors_are_used_by_turns(self):
        for house in all_houses():
            arrows = some_arrows(house, 3)[-1]
            now, place = arrows, 0
            used = [[0] * len(doors) for doors in house]
            for _ in range(60):
                if place >= 0:
                    used[place][now[place]] += 1
                    now, place = step(house, now, place)
            for times in used:
                self.assertLessEqual(max(times) - min(times), 1)
            self.assertEqual(now, walk(house, arrows, 0, 60)[0])

    def test_a_told_list_is_the_askers_own(self):
        told = walk(OPEN, (0, 0, 0), 0, 3)
        told[1].append(99)
        told[1][0] = None
        self.assertEqual(walk(OPEN, (0, 0, 0), 0, 3), ((0, 1, 0), [1, 0, -1]))
        nothing = walk(OPEN, (0, 0, 0), 0, 0)
        nothing[1].append(5)
        self.assertEqual(walk(OPEN, (0, 0, 0), 0, 0), ((0, 0, 0), []))


class OutTest(unittest.TestCase):
    def test_by_hand(self):
        self.assertEqual(out(OPEN, (0, 0, 0), 0), (-1, (0, 1, 0), (2, 1, 0)))
        self.assertEqual(out(OPEN, (1, 0, 0), 0), (-1, (0, 0, 0), (1, 0, 0)))
        self.assertEqual(out(OPEN, (0, 2, 0), 0), (-2, (1, 0, 0), (1, 1, 0)))
        self.assertEqual(out(((-3,),), (0,), 0), (-3, (0,), (1,)))
        self.assertEqual(out(path_house(10), (0,) * 10, 4), (-2, (0,) * 10, (0,) * 4 + (1,) * 6))

    def test_from_each_room(self):
        for house in open_houses():
            for arrows in some_arrows(house):
                for room in range(len(house)):
                    told = out(house, arrows, room)
                    self.assertEqual(told, walked_out(house, arrows, room))
                    self.assertEqual([type(part) for part in told], [int, tuple, tuple])

    def test_as_walk_tells(self):
        for house in open_houses()[::4]:
            arrows = some_arrows(house)[-1]
            gate, behind, leavings = out(house, arrows, 0)
            self.assertEqual(walk(house, arrows, 0, 2000), (behind, walk(house, arrows, 0, sum(leavings))[1]))
            self.assertEqual(walk(house, arrows, 0, 2000)[1][-1], gate)

    def test_a_long_way(self):
        house = tuple((0, room + 1) for room in range(9)) + ((0, -1),)
        gate, arrows, leavings = out(house, (0,) * 10, 0)
        self.assertEqual((gate, arrows), (-1, (0,) * 10))
        self.assertEqual(leavings, tuple(2 ** (10 - room) for room in range(10)))

    def test_not_open_with_the_least_room_of_no_way_out(self):
        self.assertEqual([refusal(out, NEITHER, (0, 0, 0), room) for room in range(3)], [(NotOpen, {"room": 1})] * 3)
        for house in trapped_houses():
            least = no_gate_rooms(house)[0]
            for room in range(len(house)):
                self.assertEqual(refusal(out, house, (0,) * len(house), room), (NotOpen, {"room": least}))

    def test_two_walkers_in_either_order(self):
        for house in open_houses():
            for arrows in some_arrows(house, 3):
                for one in range(len(house)):
                    for other in range(len(house)):
                        first = out(house, arrows, one)
                        second = out(house, first[1], other)
                        turned = out(house, arrows, other)
                        last = out(house, turned[1], one)
                        self.assertEqual(second[1], last[1])
                        self.assertEqual(
                            [a + b for a, b in zip(first[2], second[2])], [a + b for a, b in zip(turned[2], last[2])])


class RefusedTest(unittest.TestCase):
    def test_no_arrows_ahead_of_no_room_ahead_of_not_open(self):
        asked = (
            step, lambda house, arrows, room: walk(house, arrows, room, 3), out,
            lambda house, arrows, room: walk_wrong(house, arrows, room, None),
        )
        for ask in asked:
            for house in KINDS:
                good = (0,) * len(house)
                for room in no_rooms_of(house):
                    self.assertEqual(refusal(ask, house, good, room), (NoRoom, {}))
                for arrows in no_arrows_of(house):
                    kept = copy.deepcopy(arrows)
                    for room in (0, len(house), None):
                        self.assertEqual(refusal(ask, house, arrows, room), (NoArrows, {}))
                    self.assertEqual(arrows, kept)


class WalkWrongTest(unittest.TestCase):
    def test_each_walk_and_its_beginnings(self):
        for house in all_houses():
            for arrows in some_arrows(house, 2):
                places = walk(house, arrows, 0, 15)[1]
                for many in range(len(places) + 1):
                    self.assertIsNone(walk_wrong(house, arrows, 0, places[:many]))
        places = walk(ring_house(10), (0,) * 10, 0, 2000)[1]
        self.assertIsNone(walk_wrong(ring_house(10), (0,) * 10, 0, places))
        self.assertEqual(places, walk(ring_house(10), (0,) * 10, 0, 2000)[1])

    def test_no_list(self):
        for thing in [thing for thing in things_of_every_kind() if not isinstance(thing, list)]:
            with self.subTest(thing=thing):
                self.assertEqual(walk_wrong(OPEN, (0, 0, 0), 0, thing), ("list", 0))
        self.assertEqual(walk_wrong(OPEN, (0, 0, 0), 0, (1, 0, -1)), ("list", 0))
        self.assertEqual(walk_wrong(OPEN, (0, 0, 0), 0, {0: 1}), ("list", 0))

    def test_behind_a_gate(self):
        for more in (-1, 0, 1, None, True, "x", [], 99):
            self.assertEqual(walk_wrong(OPEN, (0, 0, 0), 0, [1, 0, -1, more]), ("behind", 3))
            self.assertEqual(walk_wrong(OPEN, (0, 0, 0), 0, [1, 0, -1, more, more]), ("behind", 3))
        self.assertEqual(walk_wrong(((-1,),), (0,), 0, [-1, -1]), ("behind", 1))

    def test_another_form(self):
        for thing in (3, -3, -4, 10 ** 99, True, False, None, "", "1", [], [1], (), (1,), {}, {1: 1}):
            with self.subTest(thing=thing):
                self.assertEqual(walk_wrong(OPEN, (0, 0, 0), 0, [thing]), ("form", 0))
                self.assertEqual(walk_wrong(OPEN, (0, 0, 0), 0, [thing, thing]), ("form", 0))
                self.assertEqual(walk_wrong(OPEN, (0, 0, 0), 0, [1, thing, 5]), ("form", 1))
                self.assertEqual(walk_wrong(OPEN, (0, 0, 0), 0, [1, 0, thing]), ("form", 2))
        for thing in things_of_every_kind():
            if thing not in (0, 1, 2, -1, -2) or thing is True or thing is False:
                self.assertEqual(walk_wrong(OPEN, (0, 0, 0), 0, [1, thing]), ("form", 1))

    def test_a_gate_that_the_house_has_anywhere_is_of_the_form(self):
        self.assertEqual(walk_wrong(OPEN, (0, 0, 0), 0, [-2]), ("door", 0))
        self.assertEqual(walk_wrong(OPEN, (0, 0, 0), 0, [-3]), ("form", 0))
        self.assertEqual(walk_wrong(((0,), (-3,)), (0, 0), 0, [-3]), ("door", 0))
        self.assertEqual(walk_wrong(((0,), (-3,)), (0, 0), 0, [-1]), ("form", 0))

    def test_a_room_to_which_no_door_leads_is_of_the_form(self):
        self.assertEqual(walk_wrong(((0,), (0,)), (0, 0), 0, [0, 1]), ("door", 1))
        self.assertEqual(walk_wrong(((0,), (0,)), (0, 0), 0, [0, 2]), ("form", 1))

    def test_another_door(self):
        self.assertEqual(walk_wrong(OPEN, (0, 0, 0), 0, [0]), ("door", 0))
        self.assertEqual(walk_wrong(OPEN, (0, 0, 0), 0, [1, 2, None]), ("door", 1))
        self.assertEqual(walk_wrong(OPEN, (0, 0, 0), 0, [1, 0, 1, 9]), ("door", 2))
        self.assertEqual(walk_wrong(OPEN, (0, 0, 0), 0, [1, -1]), ("door", 1))

    def test_one_place_otherwise(self):
        for house in all_houses()[::3]:
            arrows = some_arrows(house, 2)[-1]
            places = walk(house, arrows, 0, 12)[1]
            leads = {door for doors in house for door in doors}
            for at, right in enumerate(places):
                for wrong in range(-4, len(house) + 1):
                    if wrong != right:
                        word = "door" if 0 <= wrong < len(house) or wrong in leads else "form"
                        told = walk_wrong(house, arrows, 0, places[:at] + [wrong] + places[at + 1:])
                        self.assertEqual(told, (word, at))

    def test_what_is_handed_in_stays(self):
        places = [1, 0, -1, [None], {"a": [1]}]
        kept = copy.deepcopy(places)
        walk_wrong(OPEN, (0, 0, 0), 0, places)
        self.assertEqual(places, kept)


class GreatTest(unittest.TestCase):
    def test_greater_houses(self):
        for house in great_houses():
            for room in range(len(house)):
                arrows = (0,) * len(house)
                self.assertIsNone(walk_wrong(house, arrows, room, walk(house, arrows, room, 300)[1]))


if __name__ == "__main__":
    unittest.main()
