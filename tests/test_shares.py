"""[7.1], [7.3]: shares of rooms and gates, and the paper of them."""

import copy
import unittest
from fractions import Fraction

from tests.things import (
    GATES, gates_met, no_gate_rooms, no_walkers_of, open_houses, path_house, refusal, things_of_every_kind,
    trapped_houses,
)
from turnarrows.errors import NotOpen, NoWalkers
from turnarrows.shares import share_of, shares, shares_hold

HOUSE = ((1, -1), (0, -2))


def has(house, gate, told, door):
    return told[door] if door >= 0 else Fraction(int(door == gate))


class SharesTest(unittest.TestCase):
    def test_by_hand(self):
        self.assertEqual(shares(HOUSE, -1), ((2, 3), (1, 3)))
        self.assertEqual(shares(HOUSE, -2), ((1, 3), (2, 3)))
        self.assertEqual(shares(HOUSE, -3), ((0, 1), (0, 1)))
        self.assertEqual(shares(((-1,),), -1), ((1, 1),))
        self.assertEqual(shares(((-1,),), -2), ((0, 1),))
        self.assertEqual(shares(((0, 0, 0, -1, -2, -2),), -2), ((2, 3),))
        self.assertEqual(shares(((-1, 1, 1), (-3, -1, -1, -1, -1, 0)), -3), ((1, 8), (3, 16)))
        self.assertEqual(shares(path_house(10), -2), ((1, 1),) * 10)

    def test_the_middle_at_each_room(self):
        for house in open_houses():
            for gate in GATES:
                told = shares(house, gate)
                self.assertEqual((type(told), len(told)), (tuple, len(house)))
                numbers = [Fraction(*part) for part in told]
                self.assertEqual([(part.numerator, part.denominator) for part in numbers], list(told))
                for room, doors in enumerate(house):
                    middle = sum(has(house, gate, numbers, door) for door in doors) / len(doors)
                    self.assertEqual(numbers[room], middle)
                    self.assertEqual(numbers[room] > 0, gate in gates_met(house, room))

    def test_all_gates_together_are_one(self):
        for house in open_houses():
            rows = [shares(house, gate) for gate in GATES]
            for room in range(len(house)):
                self.assertEqual(sum(Fraction(*row[room]) for row in rows), 1)


class SharesHoldTest(unittest.TestCase):
    def test_of_what_shares_tells(self):
        for house in open_houses():
            for gate in GATES:
                self.assertIs(shares_hold(house, gate, shares(house, gate)), True)

    def test_of_another_gate(self):
        for house in open_houses():
            told = [shares(house, gate) for gate in GATES]
            for gate, right in zip(GATES, told):
                for thing in told:
                    self.assertIs(shares_hold(house, gate, thing), thing == right)

    def test_one_share_otherwise(self):
        for house in open_houses()[::2]:
            told = shares(house, -1)
            for room in range(len(house)):
                for more in (Fraction(1), Fraction(-1), Fraction(1, 7), Fraction(1, 10 ** 40)):
                    part = Fraction(*told[room]) + more
                    bent = told[:room] + ((part.numerator, part.denominator),) + told[room + 1:]
                    self.assertIs(shares_hold(house, -1, bent), False)

    def test_all_shares_otherwise(self):
        # In a room's middle alone, not at the gates, such ones would do.
        self.assertIs(shares_hold(((0, 1, -1), (0, 1)), -1, ((1, 1), (1, 1))), True)
        self.assertIs(shares_hold(((0, 1, -1), (0, 1)), -1, ((2, 1), (2, 1))), False)
        self.assertIs(shares_hold(((0, 1, -1), (0, 1)), -1, ((0, 1), (0, 1))), False)

    def test_not_in_lowest_terms_and_other_forms(self):
        for thing in (
            ((4, 6), (1, 3)), ((2, 3), (2, 6)), ((-2, -3), (1, 3)), ((2, 3), (-1, -3)), [(2, 3), (1, 3)],
            ([2, 3], (1, 3)), ((2, 3), [1, 3]), ((2, 3),), ((2, 3), (1, 3), (0, 1)), (), ((2, 3), (1, 0)),
            ((2, 0), (1, 3)), ((2, 3, 1), (1, 3)), ((2,), (1, 3)), ((2, 3), (True, 3)), ((2, 3), 1), ((2, 3), None),
            ((2, 3), "1/3"), (("2", 3), (1, 3)), {0: (2, 3), 1: (1, 3)}, (((2, 3), (1, 3)),), ((2, 3), (1, None)),
            ((2, 3), (1, -3)), ((-2, 3), (1, 3)), None, 0, "2/3 1/3", ((1, 3), (2, 3)), ((10 ** 99, 1), (1, 3)),
        ):
            with self.subTest(thing=thing):
                self.assertIs(shares_hold(HOUSE, -1, thing), False)
        self.assertIs(shares_hold(HOUSE, -1, ((2, 3), (1, 3))), True)
        self.assertIs(shares_hold(((-1,),), -1, ((True, 1),)), False)
        self.assertIs(shares_hold(((-1,),), -1, ((1, True),)), False)
        self.assertIs(shares_hold(((-1,),), -2, ((0, 2),)), False)
        self.assertIs(shares_hold(((-1,),), -2, ((False, 1),)), False)

    def test_things_of_every_kind(self):
        for house in (HOUSE, ((-1,),), path_house(10)):
            things = things_of_every_kind()
            kept = copy.deepcopy(things)
            for thing in things:
                for gate in GATES:
                    self.assertIs(shares_hold(house, gate, thing), False)
                    self.assertIs(shares_hold(house, gate, (thing,) * len(house)), False)
                    self.assertIs(shares_hold(house, gate, ((thing, 1),) * len(house)),
                                  type(thing) is int and (thing,) * len(house) == tuple(a for a, b in shares(house, gate))
                                  and all(b == 1 for a, b in shares(house, gate)))
            self.assertEqual(things, kept)


class ShareOfTest(unittest.TestCase):
    def test_by_hand(self):
        self.assertEqual(share_of(HOUSE, -1, (0, 0)), (0, 1))
        self.assertEqual(share_of(HOUSE, -1, (1, 1)), (1, 1))
        self.assertEqual(share_of(HOUSE, -1, (100, 50)), (250, 3))
        self.assertEqual(share_of(HOUSE, -3, (100, 100)), (0, 1))

    def test_the_sum(self):
        for house in open_houses():
            walkers = tuple((7 * room * room + 3) % 101 for room in range(len(house)))
            for gate in GATES:
                right = sum(many * Fraction(*part) for many, part in zip(walkers, shares(house, gate)))
                self.assertEqual(share_of(house, gate, walkers), (right.numerator, right.denominator))


class RefusedTest(unittest.TestCase):
    def test_not_open(self):
        for house in trapped_houses():
            right = (NotOpen, {"room": no_gate_rooms(house)[0]})
            for gate in GATES:
                self.assertEqual(refusal(shares, house, gate), right)
                self.assertEqual(refusal(shares_hold, house, gate, None), right)
                self.assertEqual(refusal(shares_hold, house, gate, ((1, 1),) * len(house)), right)
                self.assertEqual(refusal(share_of, house, gate, (1,) * len(house)), right)

    def test_no_walkers_ahead_of_not_open(self):
        for house in (HOUSE, ((0,),), ((0,), (-1,)), path_house(10)):
            for walkers in no_walkers_of(house):
                self.assertEqual(refusal(share_of, house, -1, walkers), (NoWalkers, {}))


if __name__ == "__main__":
    unittest.main()
