"""Rounds: how a walker in a shut house comes again and again to the same states."""

from turnarrows.arrows import last_ways
from turnarrows.houses import come_to, is_room_number, refuse_not_shut
from turnarrows.kinds import is_tuple_within
from turnarrows.squares import common_divisor, determinant, doors_square, minor
from turnarrows.trees import is_ring, rings_of
from turnarrows.walks import leave, refuse_no_state


def refuse_no_shut_state(house, arrows, room):
    refuse_no_state(house, arrows, room)
    refuse_not_shut(house)


class Stroll:
    """A walker on its way in a shut house: its state, and how many steps it has gone."""

    def __init__(self, house, arrows, room):
        self.house = house
        self.turning = list(arrows)
        self.place = room
        self.steps = 0

    def go_till_in(self, rooms):
        while self.place not in rooms:
            self.place = leave(self.house, self.turning, self.place)
            self.steps += 1


def gone_from(house, room):
    """The rooms that can be come to from the room, and from which it can not be come to."""
    return [there for there in come_to(house, room) if room not in come_to(house, there)]


def ring_without(house, arrows, room):
    """The least ring of rooms that can be come to from the room, without it; None where there is none."""
    for ring in rings_of(last_ways(house, arrows), come_to(house, room)):
        if room not in ring:
            return ring
    return None


def why_of(house, arrows, room):
    gone = gone_from(house, room)
    if gone != []:
        return ("gone", gone[0])
    ring = ring_without(house, arrows, room)
    return None if ring is None else ("ring", ring)


def to_where_it_stays(house, arrows, room):
    """The walker's stroll till it is in a room from which it can come back from wherever it comes to."""
    stroll = Stroll(house, arrows, room)
    stroll.go_till_in([place for place in range(len(house)) if gone_from(house, place) == []])
    return stroll


def to_its_round(house, arrows, room):
    stroll = to_where_it_stays(house, arrows, room)
    ring = ring_without(house, stroll.turning, stroll.place)
    while ring is not None:
        # Till the walker comes into this ring it stays as it is, so no state ahead of that is in its round.
        stroll.go_till_in(ring)
        ring = ring_without(house, stroll.turning, stroll.place)
    return stroll


def turns_among(house, rooms):
    """The turns of a round in which just these rooms are left.

    The ways to choose a door of each other one that lead to a room in the end are as its turns are: they fit.
    """
    rows = doors_square(house)
    trees = [determinant(minor(rows, [other for other in rooms if other != room])) for room in rooms]
    divisor = common_divisor(trees)
    turns = [0] * len(house)
    for room, many in zip(rooms, trees):
        turns[room] = many // divisor
    return tuple(turns)


def round_of(house, arrows, room):
    refuse_no_shut_state(house, arrows, room)
    stroll = to_its_round(house, arrows, room)
    turns = turns_among(house, come_to(house, stroll.place))
    return (stroll.steps, sum([many * len(doors) for many, doors in zip(turns, house)]))


def turns_of(house, arrows, room):
    refuse_no_shut_state(house, arrows, room)
    stroll = to_where_it_stays(house, arrows, room)
    return turns_among(house, come_to(house, stroll.place))


def in_round(house, arrows, room):
    refuse_no_shut_state(house, arrows, room)
    return why_of(house, arrows, room) is None


def why_not(house, arrows, room):
    refuse_no_shut_state(house, arrows, room)
    return why_of(house, arrows, room)


def is_gone(house, room, thing):
    return is_room_number(house, thing) and thing in gone_from(house, room)


def is_ring_without(house, arrows, room, thing):
    if not is_ring(house, last_ways(house, arrows), thing):
        return False
    return room not in thing and thing[0] in come_to(house, room)


def why_not_holds(house, arrows, room, thing):
    refuse_no_shut_state(house, arrows, room)
    if not is_tuple_within(thing, 2, 2):
        return False
    if thing[0] == "gone":
        return is_gone(house, room, thing[1])
    return thing[0] == "ring" and is_ring_without(house, arrows, room, thing[1])
