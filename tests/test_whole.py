"""[0.1] and what the document says of two modules in common, tried with the same houses."""

import unittest
from fractions import Fraction
from math import prod
from random import Random

from tests.things import (
    GATES, drawn_houses, is_way_out, open_houses, shut_houses, some_arrows, touring_houses, trapped_houses,
)
from turnarrows.again import again_after, again_many, all_again, comes_again, sent
from turnarrows.arrows import is_arrows, last_doors, turned_at
from turnarrows.back import back_step, back_walk, came_from, led_back, led_back_all, round_back
from turnarrows.circles import tour_at, tours, tours_many
from turnarrows.desk import Desk
from turnarrows.houses import come_to, doors_many, gates_from, house_of, is_balanced, is_house, is_joined, is_open, trap
from turnarrows.houses import trap_holds
from turnarrows.likes import are_alike, behind_gives, how_many_kinds, kind_sizes, least_like, like_none, settled, why_alike
from turnarrows.rests import doors_used, is_rest, left_by, rest
from turnarrows.rounds import in_round, round_of, turns_of, why_not, why_not_holds
from turnarrows.shares import share_of, shares, shares_hold
from turnarrows.texts import read, shown
from turnarrows.tours import come_round, doors_by, is_tour, on_ring, tour_of
from turnarrows.trees import ring_holds, ring_of, row_holds, row_of
from turnarrows.walks import out, step, walk, walk_wrong
from turnarrows.weights import even, most_off, off_by, value


def added(one, other):
    return tuple(a + b for a, b in zip(one, other))


def units(house):
    return [tuple(int(at == room) for at in range(len(house))) for room in range(len(house))]


def opens():
    drawn = drawn_houses(61, 40, rooms_most=5, doors_most=4) + drawn_houses(62, 10, rooms_most=10, doors_most=6)
    return open_houses()[::4] + [house for house in drawn if is_way_out(house)]


class EveryHouseTest(unittest.TestCase):
    def test_houses_texts_arrows(self):
        for house in opens() + trapped_houses() + shut_houses()[::10] + touring_houses():
            self.assertEqual(house_of(list(read(shown(house)))), house)
            self.assertIs(is_open(house), trap(house) == ())
            self.assertIs(trap_holds(house, trap(house)), trap(house) != ())
            for arrows in some_arrows(house, 3):
                for room, doors in enumerate(house):
                    behind, place = step(house, arrows, room)
                    self.assertEqual((behind, [place]), walk(house, arrows, room, 1))
                    self.assertEqual(behind, turned_at(house, arrows, room))
                    self.assertEqual(last_doors(house, behind)[room], place)
                    self.assertIn(room, came_from(house, behind, place))
                    self.assertEqual(back_step(house, behind, place, room), arrows)
                    self.assertIn(place, come_to(house, room) + gates_from(house, room))
                    stood = left_by(house, arrows, units(house)[room], [room])
                    self.assertEqual(stood[0], behind)
                    self.assertIsNone(walk_wrong(house, arrows, room, walk(house, arrows, room, 40)[1]))
                    now = arrows
                    for _ in doors:
                        now = turned_at(house, now, room)
                    self.assertEqual(now, arrows)
                ring = ring_of(house, arrows)
                self.assertIs(ring_holds(house, arrows, ring), ring is not None)


class OpenHouseTest(unittest.TestCase):
    def test_walkers(self):
        draw = Random(63)
        for house in opens():
            for arrows in some_arrows(house, 2):
                walkers = tuple(draw.randint(0, 4) for _ in house)
                gates, behind, leavings = rest(house, arrows, walkers)
                self.assertIs(is_rest(house, arrows, walkers, leavings), True)
                self.assertEqual(sum(gates), sum(walkers))
                self.assertEqual([sum(uses) for uses in doors_used(house, arrows, leavings)], list(leavings))
                # One walker behind the other, by out and by even.
                now, left = arrows, (0,) * len(house)
                for room, many in enumerate(walkers):
                    for gate in GATES:
                        counts = even(house, gate, now, room, many)
                        self.assertEqual(counts[-1], rest(house, now, tuple(many * one for one in units(house)[room]))[0][-1 - gate])
                    for _ in range(many):
                        _, now, more = out(house, now, room)
                        left = added(left, more)
                self.assertEqual((now, left), (behind, leavings))
                for gate in GATES:
                    off = Fraction(*off_by(house, gate, arrows, walkers))
                    self.assertEqual(off, gates[-1 - gate] - Fraction(*share_of(house, gate, walkers)))
                    self.assertLessEqual(abs(off), Fraction(*most_off(house, gate)))
                    self.assertEqual(value(house, gate, arrows, walkers, 0),
                                     value(house, gate, behind, (0,) * len(house), gates[-1 - gate]))
                    self.assertIs(shares_hold(house, gate, shares(house, gate)), True)

    def test_arrows_that_come_again(self):
        for house in opens():
            many = again_many(house)
            self.assertEqual(many, how_many_kinds(house))
            self.assertEqual(many, prod(kind_sizes(house)))
            if many > 120:
                continue
            told = all_again(house)
            self.assertEqual(len(told), many)
            for room in range(len(house)):
                numbers = sent(house, room)
                self.assertEqual(again_after(house, told[0], room), like_none(house, room))
                for number, arrows in list(zip(numbers, told))[:10]:
                    gate, behind, leavings = out(house, arrows, room)
                    self.assertEqual(behind, told[number])
                    self.assertEqual(led_back(house, behind, room), (arrows, leavings))
                    self.assertEqual(back_walk(house, behind, room)[-1], gate)
                    self.assertIs(is_rest(house, arrows, units(house)[room], leavings), True)
                    self.assertIs(row_holds(house, arrows, row_of(house, arrows)), True)
                place = list(range(len(told)))
                for _ in range(like_none(house, room)):
                    place = [numbers[at] for at in place]
                self.assertEqual(place, list(range(len(told))))

    def test_kinds_of_walkers_are_what_they_do(self):
        draw = Random(64)
        for house in opens():
            if again_many(house) > 60:
                continue
            for _ in range(3):
                walkers = tuple(draw.randint(0, 12) for _ in house)
                less, gives = settled(house, walkers)
                least = least_like(house, walkers)
                self.assertEqual(behind_gives(house, walkers, gives), less)
                self.assertEqual(why_alike(house, walkers, less), gives)
                other = tuple(draw.randint(0, 12) for _ in house)
                same = are_alike(house, walkers, other)
                self.assertIs(same, least == least_like(house, other))
                for arrows in all_again(house)[:6]:
                    behind = rest(house, arrows, walkers)[1]
                    self.assertEqual(rest(house, arrows, less)[1], behind)
                    if max(least) <= 100:
                        self.assertEqual(rest(house, arrows, least)[1], behind)
                    self.assertIs(rest(house, arrows, other)[1] == behind, same)
                    self.assertEqual(led_back_all(house, behind, walkers)[0], arrows)
                    self.assertEqual(led_back_all(house, behind, less)[0], arrows)

    def test_walkers_from_each_room_make_arrows_come_again(self):
        for house in opens():
            for arrows in some_arrows(house, 3):
                now = arrows
                for _ in range(200):
                    if not comes_again(house, now):
                        now = rest(house, now, (1,) * len(house))[1]
                self.assertIs(comes_again(house, now), True)
                self.assertIs(comes_again(house, rest(house, now, (2,) * len(house))[1]), True)


class ShutHouseTest(unittest.TestCase):
    def test_rounds(self):
        for house in shut_houses()[::6]:
            for arrows in some_arrows(house, 3):
                for room in range(len(house)):
                    ahead, length = round_of(house, arrows, room)
                    turns = turns_of(house, arrows, room)
                    self.assertEqual(length, sum(many * len(doors) for many, doors in zip(turns, house)))
                    self.assertIs(in_round(house, arrows, room), ahead == 0)
                    why = why_not(house, arrows, room)
                    self.assertIs(why_not_holds(house, arrows, room, why), ahead > 0)
                    if ahead + length <= 2000:
                        now, places = walk(house, arrows, room, ahead + length)
                        there = ([room] + places)[ahead]
                        self.assertEqual((now, places[-1]), (walk(house, arrows, room, ahead)[0], there))
                        self.assertIs(in_round(house, now, places[-1]), True)
                        self.assertEqual(step(house, *round_back(house, now, places[-1])), (now, places[-1]))

    def test_tours(self):
        for house in touring_houses():
            self.assertIs(is_balanced(house) and is_joined(house), True)
            for arrows in some_arrows(house, 4):
                for room in range(len(house)):
                    steps, now, place = come_round(house, arrows, room)
                    self.assertEqual(round_of(house, arrows, room), (steps, doors_many(house)))
                    self.assertEqual(walk(house, arrows, room, steps)[0], now)
                    self.assertIs(on_ring(house, arrows, room), in_round(house, arrows, room))
                    tour = tour_of(house, now, place)
                    self.assertIs(is_tour(house, tour), True)
                    self.assertEqual([where for where, _ in tour[1:]] + [place], walk(house, now, place, len(tour))[1])
                    anew = doors_by(house, tour)
                    self.assertIs(is_house(anew) and is_arrows(anew, (0,) * len(anew)), True)
                    self.assertEqual(tours_many(anew), tours_many(house))
                    at = tour.index((0, 0))
                    if tours_many(house) <= 300:
                        number = tours(house).index(tour[at:] + tour[:at])
                        self.assertEqual(tour_at(house, number), tour[at:] + tour[:at])

    def test_as_many_tours_as_ways_that_come_again_when_room_0_leads_out(self):
        # Who leaves room 0 goes out: then the arrows that come again are the ways to choose last doors.
        for house in touring_houses():
            if len(house) > 1:
                opened = ((-1,),) + house[1:]
                products = prod(prod(range(1, len(doors))) for doors in house)
                self.assertEqual(tours_many(house), again_many(opened) * products)


class DeskTest(unittest.TestCase):
    def test_a_whole_day_at_the_desk(self):
        draw = Random(65)
        for house in opens()[::2]:
            desk = Desk()
            desk.say("house " + shown(house).replace("\n", " ; "))
            self.assertEqual(read(desk.say("shown").replace(" ; ", "\n")), house)
            walkers = tuple(draw.randint(0, 8) for _ in house)
            for room, many in enumerate(walkers):
                desk.say(f"put {room} {many}")
            gates, behind, leavings = rest(house, (0,) * len(house), walkers)
            self.assertEqual(desk.say("rest"), " ".join(str(many) for many in leavings))
            steps = 0
            while any(desk.say("walkers").split(" ")[room] != "0" for room in range(len(house))) and steps < 10 ** 5:
                room = draw.choice([at for at, many in enumerate(desk.say("walkers").split(" ")) if many != "0"])
                desk.say(f"step {room}")
                steps += 1
            by_steps = [desk.say(row) for row in ("arrows", "gates")]
            self.assertEqual(by_steps, [" ".join(map(str, behind)), " ".join(map(str, gates))])
            for _ in range(steps):
                desk.say("back")
            desk.say("out")
            self.assertEqual([desk.say(row) for row in ("arrows", "gates")], by_steps)
            self.assertEqual(steps, sum(leavings))


if __name__ == "__main__":
    unittest.main()
