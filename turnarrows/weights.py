"""Weights of arrows: by how much what leaves by a gate may be off its share."""

from turnarrows.errors import NoWalkers
from turnarrows.fractions import added, greatest, least, sum_of, taken_off, whole
from turnarrows.houses import refuse_not_open
from turnarrows.kinds import is_whole_within
from turnarrows.rests import MOST_WALKERS, refuse_no_crowd, rest_of
from turnarrows.shares import door_has, parts_of, parts_sum
from turnarrows.walks import led_out, refuse_no_state


def room_weights(parts, gate, room, doors):
    told = [whole(0)]
    for door in doors[:-1]:
        told.append(taken_off(added(told[-1], parts[room]), door_has(parts, gate, door)))
    return tuple(told)


def weights_by(house, gate, parts):
    return tuple([room_weights(parts, gate, room, doors) for room, doors in enumerate(house)])


def weights(house, gate):
    refuse_not_open(house)
    return weights_by(house, gate, parts_of(house, gate))


def arrows_sum(rows, arrows):
    return sum_of([row[arrow] for row, arrow in zip(rows, arrows)])


def value(house, gate, arrows, walkers, out):
    refuse_no_crowd(house, arrows, walkers)
    refuse_not_open(house)
    parts = parts_of(house, gate)
    inside = added(parts_sum(parts, walkers), arrows_sum(weights_by(house, gate, parts), arrows))
    return added(inside, whole(out))


def off_by(house, gate, arrows, walkers):
    refuse_no_crowd(house, arrows, walkers)
    refuse_not_open(house)
    gates = rest_of(house, arrows, walkers)[0]
    return taken_off(whole(gates[-gate - 1]), parts_sum(parts_of(house, gate), walkers))


def most_off(house, gate):
    return sum_of([taken_off(greatest(row), least(row)) for row in weights(house, gate)])


def even(house, gate, arrows, room, many):
    refuse_no_state(house, arrows, room)
    if not is_whole_within(many, 0, MOST_WALKERS):
        raise NoWalkers()
    refuse_not_open(house)
    counts = [0]
    behind = arrows
    for walker in range(many):
        told = led_out(house, behind, room)
        behind = told[1]
        counts.append(counts[-1] + (1 if told[0] == gate else 0))
    return counts
