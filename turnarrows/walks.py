"""One walker: its steps, its walk, its way out, and a look at a told walk."""

from turnarrows.arrows import refuse_no_arrows, turned_once
from turnarrows.houses import is_room_number, refuse_no_room, refuse_not_open
from turnarrows.kinds import is_whole


def refuse_no_state(house, arrows, room):
    refuse_no_arrows(house, arrows)
    refuse_no_room(house, room)


def leave(house, turning, room):
    """Turns the room's arrow in `turning`, a list of the program's own, and tells the place to which it led."""
    door = turning[room]
    turning[room] = (door + 1) % len(house[room])
    return house[room][door]


def step(house, arrows, room):
    refuse_no_state(house, arrows, room)
    return (turned_once(house, arrows, room, 1), house[room][arrows[room]])


def walk(house, arrows, room, steps):
    refuse_no_state(house, arrows, room)
    turning = list(arrows)
    places = []
    place = room
    while len(places) < steps and place >= 0:
        place = leave(house, turning, place)
        places.append(place)
    return (tuple(turning), places)


def led_out(house, arrows, room):
    """As out tells it, but asked of an open house, arrows and a room alone."""
    turning = list(arrows)
    leavings = [0] * len(house)
    place = room
    while place >= 0:
        leavings[place] += 1
        place = leave(house, turning, place)
    return (place, tuple(turning), tuple(leavings))


def out(house, arrows, room):
    refuse_no_state(house, arrows, room)
    refuse_not_open(house)
    return led_out(house, arrows, room)


def is_place_had(house, thing):
    if not is_whole(thing):
        return False
    return is_room_number(house, thing) or any([thing in doors for doors in house])


def walk_wrong(house, arrows, room, thing):
    refuse_no_state(house, arrows, room)
    if not isinstance(thing, list):
        return ("list", 0)
    turning = list(arrows)
    place = room
    for at, told in enumerate(thing):
        if place < 0:
            return ("behind", at)
        if not is_place_had(house, told):
            return ("form", at)
        place = leave(house, turning, place)
        if told != place:
            return ("door", at)
    return None
