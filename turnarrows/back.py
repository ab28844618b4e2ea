"""Led back: steps, walks and rounds undone."""

from turnarrows.again import refuse_never_back
from turnarrows.arrows import last_ways, refuse_no_arrows, turned_once
from turnarrows.errors import NeverBack, NoRoom
from turnarrows.houses import GATES_MANY, refuse_no_room, refuse_not_open
from turnarrows.kinds import is_whole_within
from turnarrows.rests import refuse_no_crowd
from turnarrows.rounds import refuse_no_shut_state, why_of
from turnarrows.walks import refuse_no_state


def refuse_no_place(house, thing):
    if not is_whole_within(thing, -GATES_MANY, len(house) - 1):
        raise NoRoom()


def came_from(house, arrows, place):
    refuse_no_arrows(house, arrows)
    refuse_no_place(house, place)
    return [room for room, led in enumerate(last_ways(house, arrows)) if led == place]


def back_step(house, arrows, place, room):
    refuse_no_arrows(house, arrows)
    refuse_no_place(house, place)
    refuse_no_room(house, room)
    if last_ways(house, arrows)[room] != place:
        raise NeverBack()
    return turned_once(house, arrows, room, -1)


def ahead_on_ring(last, put_in, place):
    """The place ahead of this one on its ring, each gate being taken as a place that leads to where one was put in."""
    at = place
    onward = last[at] if at >= 0 else put_in
    while onward != place:
        at = onward
        onward = last[at] if at >= 0 else put_in
    return at


def gate_by(last, room):
    place = room
    while place >= 0:
        place = last[place]
    return place


def undone(house, arrows, room):
    """A tuple (arrows, places) of the walk from the room that left such arrows, which come again, behind."""
    turning = list(arrows)
    last = list(last_ways(house, arrows))
    place = gate_by(last, room)
    places = []
    ahead = ahead_on_ring(last, room, place)
    while ahead >= 0:
        places.append(place)
        turning[ahead] = (turning[ahead] - 1) % len(house[ahead])
        last[ahead] = house[ahead][turning[ahead] - 1]
        place = ahead
        ahead = ahead_on_ring(last, room, place)
    places.reverse()
    return (tuple(turning), places)


def count_leavings(leavings, room, places):
    """Counts the leavings of a walk from the room in `leavings`, a list of the program's own."""
    leavings[room] += 1
    for place in places[:-1]:
        leavings[place] += 1


def led_back_each(house, arrows, walkers):
    leavings = [0] * len(house)
    for room, many in enumerate(walkers):
        for walker in range(many):
            told = undone(house, arrows, room)
            arrows = told[0]
            count_leavings(leavings, room, told[1])
    return (arrows, tuple(leavings))


def refuse_no_way_back(house, arrows, room):
    refuse_no_state(house, arrows, room)
    refuse_not_open(house)
    refuse_never_back(house, arrows)


def led_back(house, arrows, room):
    refuse_no_way_back(house, arrows, room)
    return led_back_each(house, arrows, [1 if at == room else 0 for at in range(len(house))])


def back_walk(house, arrows, room):
    refuse_no_way_back(house, arrows, room)
    return undone(house, arrows, room)[1]


def led_back_all(house, arrows, walkers):
    refuse_no_crowd(house, arrows, walkers)
    refuse_not_open(house)
    refuse_never_back(house, arrows)
    return led_back_each(house, arrows, walkers)


def round_back(house, arrows, room):
    refuse_no_shut_state(house, arrows, room)
    if why_of(house, arrows, room) is not None:
        raise NeverBack()
    # In a shut house there are no gates, so where one was put in is never asked.
    ahead = ahead_on_ring(last_ways(house, arrows), room, room)
    return (turned_once(house, arrows, ahead, -1), ahead)
