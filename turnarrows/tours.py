"""Tours: walks that take each door of a balanced and joined house just once."""

from turnarrows.errors import NoTour
from turnarrows.houses import doors_many, is_balanced, is_joined, is_room_number
from turnarrows.kinds import is_tuple_within, is_whole_within
from turnarrows.rounds import ring_without, to_its_round
from turnarrows.walks import leave, refuse_no_state


def refuse_no_touring(house):
    if not is_balanced(house) or not is_joined(house):
        raise NoTour()


def refuse_no_tour_state(house, arrows, room):
    refuse_no_touring(house)
    refuse_no_state(house, arrows, room)


def is_leaving(house, thing):
    if not is_tuple_within(thing, 2, 2) or not is_room_number(house, thing[0]):
        return False
    return is_whole_within(thing[1], 0, len(house[thing[0]]) - 1)


def is_round_trip(house, thing):
    """As is_tour tells it, but asked of a balanced and joined house alone."""
    if not isinstance(thing, list) or len(thing) != doors_many(house):
        return False
    if not all([is_leaving(house, leaving) for leaving in thing]):
        return False
    if len(set(thing)) != len(thing):
        return False
    ahead = thing[-1:] + thing[:-1]
    return all([house[one[0]][one[1]] == leaving[0] for one, leaving in zip(ahead, thing)])


def is_tour(house, thing):
    refuse_no_touring(house)
    return is_round_trip(house, thing)


def tour_of(house, arrows, room):
    refuse_no_tour_state(house, arrows, room)
    turning = list(arrows)
    place = room
    leavings = []
    for number in range(doors_many(house)):
        leavings.append((place, turning[place]))
        place = leave(house, turning, place)
    return leavings if is_round_trip(house, leavings) else None


def on_ring(house, arrows, room):
    refuse_no_tour_state(house, arrows, room)
    # All rooms are joined, so the walker's room is on the one ring just where there is no ring without it.
    return ring_without(house, arrows, room) is None


def come_round(house, arrows, room):
    refuse_no_tour_state(house, arrows, room)
    stroll = to_its_round(house, arrows, room)
    return (stroll.steps, tuple(stroll.turning), stroll.place)


def doors_by(house, tour):
    if not is_tour(house, tour):
        raise NoTour()
    told = []
    for room in range(len(house)):
        told.append(tuple([house[room][leaving[1]] for leaving in tour if leaving[0] == room]))
    return tuple(told)
