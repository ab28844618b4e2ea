"""Shares: which part of the walkers from a room would leave by a gate, if each door were taken as often."""

from turnarrows.fractions import fraction, is_fraction, sum_of, times, whole
from turnarrows.houses import refuse_not_open
from turnarrows.kinds import is_tuple_within
from turnarrows.rests import refuse_no_walkers
from turnarrows.squares import doors_square, solved


def parts_of(house, gate):
    """As shares tells it, but asked of an open house alone."""
    told = solved(doors_square(house), [doors.count(gate) for doors in house])
    return tuple([fraction(top, told[1]) for top in told[0]])


def shares(house, gate):
    refuse_not_open(house)
    return parts_of(house, gate)


def door_has(parts, gate, door):
    if door >= 0:
        return parts[door]
    return whole(1) if door == gate else whole(0)


def is_middle(parts, gate, room, doors):
    return sum_of([door_has(parts, gate, door) for door in doors]) == times(len(doors), parts[room])


def shares_hold(house, gate, thing):
    refuse_not_open(house)
    if not is_tuple_within(thing, len(house), len(house)):
        return False
    if not all([is_fraction(part) for part in thing]):
        return False
    return all([is_middle(thing, gate, room, doors) for room, doors in enumerate(house)])


def parts_sum(parts, walkers):
    return sum_of([times(many, part) for many, part in zip(walkers, parts)])


def share_of(house, gate, walkers):
    refuse_no_walkers(house, walkers)
    refuse_not_open(house)
    return parts_sum(parts_of(house, gate), walkers)
