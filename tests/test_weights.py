"""[7.2] to [7.4]: weights of arrows, the value that stays, and how far a gate is off its share."""

import copy
import unittest
from fractions import Fraction
from random import Random

from tests.things import (
    GATES, all_led_out, no_arrows_of, no_gate_rooms, no_rooms_of, no_walkers_of, open_houses, path_house, refusal,
    some_arrows, things_of_every_kind, trapped_houses, walked_out,
)
from turnarrows.errors import NoArrows, NoRoom, NotOpen, NoWalkers
from turnarrows.rests import left_by, rest
from turnarrows.shares import share_of, shares
from turnarrows.weights import even, most_off, off_by, value, weights

HOUSE = ((1, -1), (0, -2))


def pair(number):
    return (number.numerator, number.denominator)


def cases(seed, most=6):
    draw = Random(seed)
    for house in open_houses()[::2]:
        for arrows in some_arrows(house, 3):
            yield house, arrows, tuple(draw.choice((0, 1, draw.randint(0, most))) for _ in house), draw.choice(GATES)


def arrows_weight(house, gate, arrows):
    return sum(Fraction(*row[arrow]) for row, arrow in zip(weights(house, gate), arrows))


class WeightsTest(unittest.TestCase):
    def test_by_hand(self):
        # Shares of -1: 2/3 and 1/3. Room 0: 0, then 2/3 - 1/3; room 1: 0, then 1/3 - 2/3.
        self.assertEqual(weights(HOUSE, -1), (((0, 1), (1, 3)), ((0, 1), (-1, 3))))
        self.assertEqual(weights(HOUSE, -2), (((0, 1), (-1, 3)), ((0, 1), (1, 3))))
        self.assertEqual(weights(HOUSE, -3), (((0, 1), (0, 1)), ((0, 1), (0, 1))))
        self.assertEqual(weights(((-1, -2, -1, -3),), -1), (((0, 1), (-1, 2), (0, 1), (-1, 2)),))
        self.assertEqual(weights(((-1,),), -1), (((0, 1),),))

    def test_door_by_door_and_round(self):
        for house in open_houses():
            for gate in GATES:
                parts = [Fraction(*part) for part in shares(house, gate)]
                told = weights(house, gate)
                self.assertEqual([len(row) for row in told], [len(doors) for doors in house])
                self.assertEqual([type(told)] + [type(row) for row in told], [tuple] * (len(house) + 1))
                for room, doors in enumerate(house):
                    due = Fraction(0)
                    for door, weight in zip(doors, told[room]):
                        self.assertEqual(weight, pair(due))
                        due += parts[room] - (parts[door] if door >= 0 else int(door == gate))
                    self.assertEqual(due, 0)


class ValueTest(unittest.TestCase):
    def test_by_hand(self):
        self.assertEqual(value(HOUSE, -1, (0, 0), (0, 0), 0), (0, 1))
        self.assertEqual(value(HOUSE, -1, (0, 0), (1, 2), 0), (4, 3))
        self.assertEqual(value(HOUSE, -1, (1, 1), (1, 2), 5), (19, 3))
        self.assertEqual(value(HOUSE, -1, (0, 1), (0, 0), 0), (-1, 3))
        self.assertEqual(value(HOUSE, -3, (1, 1), (100, 100), 10 ** 40), (10 ** 40, 1))

    def test_it_stays_whoever_leaves(self):
        draw = Random(31)
        for house, arrows, walkers, gate in cases(32):
            kept = value(house, gate, arrows, walkers, 0)
            now, standing, gone = arrows, walkers, 0
            for _ in range(12):
                rooms = [room for room, many in enumerate(standing) if many]
                if rooms:
                    now, standing, gates = left_by(house, now, standing, [draw.choice(rooms)])
                    gone += gates[-1 - gate]
                    self.assertEqual(value(house, gate, now, standing, gone), kept)
            gates, behind, _ = rest(house, arrows, walkers)
            self.assertEqual(value(house, gate, behind, (0,) * len(house), gates[-1 - gate]), kept)


class OffByTest(unittest.TestCase):
    def test_by_hand(self):
        self.assertEqual(off_by(HOUSE, -1, (0, 0), (0, 0)), (0, 1))
        # The walker goes to room 1, back to 0, and out by -1.
        self.assertEqual(off_by(HOUSE, -1, (0, 0), (1, 0)), (1, 3))
        self.assertEqual(off_by(HOUSE, -2, (0, 0), (1, 0)), (-1, 3))
        self.assertEqual(off_by(HOUSE, -3, (0, 0), (1, 0)), (0, 1))

    def test_what_leaves_less_the_share(self):
        for house, arrows, walkers, gate in cases(33):
            gates, behind, _ = all_led_out(house, arrows, walkers)
            right = gates[-1 - gate] - Fraction(*share_of(house, gate, walkers))
            told = off_by(house, gate, arrows, walkers)
            self.assertEqual(told, pair(right))
            self.assertEqual(Fraction(*told), arrows_weight(house, gate, arrows) - arrows_weight(house, gate, behind))
            self.assertLessEqual(abs(Fraction(*told)), Fraction(*most_off(house, gate)))

    def test_all_gates_together(self):
        for house, arrows, walkers, _ in cases(34):
            self.assertEqual(sum(Fraction(*off_by(house, gate, arrows, walkers)) for gate in GATES), 0)


class MostOffTest(unittest.TestCase):
    def test_by_hand(self):
        self.assertEqual(most_off(HOUSE, -1), (2, 3))
        self.assertEqual(most_off(HOUSE, -3), (0, 1))
        self.assertEqual(most_off(((-1, -2, -1, -3),), -1), (1, 2))
        self.assertEqual(most_off(((-1, -1, -2, -2),), -1), (1, 1))
        self.assertEqual(most_off(((-1, -1, -2, -2),), -2), (1, 1))
        self.assertEqual(most_off(((-2, -1, -1, -2),), -1), (1, 1))

    def test_the_sum_of_spans(self):
        for house in open_houses():
            for gate in GATES:
                rows = [[Fraction(*weight) for weight in row] for row in weights(house, gate)]
                self.assertEqual(most_off(house, gate), pair(sum((max(row) - min(row) for row in rows), Fraction(0))))


class EvenTest(unittest.TestCase):
    def test_by_hand(self):
        self.assertEqual(even(HOUSE, -1, (0, 0), 0, 0), [0])
        self.assertEqual(even(((-1, -2, -1),), -1, (0,), 0, 7), [0, 1, 1, 2, 3, 3, 4, 5])
        self.assertEqual(even(((-1, -2, -1),), -2, (1,), 0, 4), [0, 1, 1, 1, 2])
        self.assertEqual(even(((-1, -2, -1),), -3, (0,), 0, 100), [0] * 101)
        self.assertEqual(even(path_house(10), -2, (0,) * 10, 0, 100), list(range(101)))

    def test_walker_behind_walker(self):
        for house, arrows, _, gate in cases(35):
            for room in (0, len(house) - 1):
                right, now = [0], arrows
                for _ in range(20):
                    gone, now, _ = walked_out(house, now, room)
                    right.append(right[-1] + int(gone == gate))
                told = even(house, gate, arrows, room, 20)
                self.assertEqual(told, right)
                self.assertIs(type(told), list)
                for many in (0, 1, 2, 7):
                    self.assertEqual(even(house, gate, arrows, room, many), right[:many + 1])
                part, most = Fraction(*shares(house, gate)[room]), Fraction(*most_off(house, gate))
                self.assertTrue(all(abs(gone - many * part) <= most for many, gone in enumerate(told)))

    def test_a_hundred(self):
        house, arrows = ((1, 2, -1), (0, 2, -2, -3), (0, 1, 1, -1)), (1, 1, 1)
        for gate in GATES:
            told = even(house, gate, arrows, 2, 100)
            self.assertEqual(len(told), 101)
            self.assertEqual(told[-1], rest(house, arrows, (0, 0, 100))[0][-1 - gate])
            told.append(None)
            self.assertEqual(len(even(house, gate, arrows, 2, 100)), 101)

    def test_no_number_of_walkers(self):
        things = [101, 102, -1, 10 ** 99, -(10 ** 99), True, False, None, "", "5", [], [5], (), (5,), {}, {5: 5}]
        things += [thing for thing in things_of_every_kind() if type(thing) is not int or not 0 <= thing <= 100]
        kept = copy.deepcopy(things)
        for house in (HOUSE, ((0,), (-1,)), path_house(10)):
            noughts = (0,) * len(house)
            for thing in things:
                self.assertEqual(refusal(even, house, -1, noughts, 0, thing), (NoWalkers, {}))
                self.assertEqual(refusal(even, house, -1, noughts, None, thing), (NoRoom, {}))
                self.assertEqual(refusal(even, house, -1, None, None, thing), (NoArrows, {}))
        self.assertEqual(things, kept)


class RefusedTest(unittest.TestCase):
    def test_not_open(self):
        for house in trapped_houses():
            right = (NotOpen, {"room": no_gate_rooms(house)[0]})
            noughts = (0,) * len(house)
            self.assertEqual(refusal(weights, house, -1), right)
            self.assertEqual(refusal(most_off, house, -2), right)
            self.assertEqual(refusal(value, house, -3, noughts, noughts, 0), right)
            self.assertEqual(refusal(off_by, house, -1, noughts, noughts), right)
            for room in range(len(house)):
                self.assertEqual(refusal(even, house, -1, noughts, room, 3), right)

    def test_arrows_rooms_walkers(self):
        for house in (HOUSE, ((0,),), ((0,), (-1,)), path_house(10)):
            noughts = (0,) * len(house)
            for arrows in no_arrows_of(house):
                for thing in (noughts, None):
                    self.assertEqual(refusal(value, house, -1, arrows, thing, 0), (NoArrows, {}))
                    self.assertEqual(refusal(off_by, house, -1, arrows, thing), (NoArrows, {}))
                self.assertEqual(refusal(even, house, -1, arrows, 0, 3), (NoArrows, {}))
            for walkers in no_walkers_of(house):
                self.assertEqual(refusal(value, house, -1, noughts, walkers, 0), (NoWalkers, {}))
                self.assertEqual(refusal(off_by, house, -1, noughts, walkers), (NoWalkers, {}))
            for room in no_rooms_of(house):
                self.assertEqual(refusal(even, house, -1, noughts, room, 3), (NoRoom, {}))


if __name__ == "__main__":
    unittest.main()
