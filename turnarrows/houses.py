"""Houses: their form, what can be come to in them, and how their doors lie."""

from turnarrows.errors import NoHouse, NoRoom, NotOpen, NotShut
from turnarrows.kinds import is_tuple_within, is_whole_within

MOST_ROOMS = 10
MOST_DOORS = 6
GATES_MANY = 3


def is_door(thing, rooms_many):
    return is_whole_within(thing, -GATES_MANY, rooms_many - 1)


def is_room(thing, rooms_many):
    if not is_tuple_within(thing, 1, MOST_DOORS):
        return False
    return all([is_door(door, rooms_many) for door in thing])


def is_house(thing):
    if not is_tuple_within(thing, 1, MOST_ROOMS):
        return False
    return all([is_room(doors, len(thing)) for doors in thing])


def house_of(things):
    # A wrong thing is told ahead of a wrong number of things, even beyond ten of them.
    for at, thing in enumerate(things):
        if not is_room(thing, len(things)):
            raise NoHouse(at)
    if not 1 <= len(things) <= MOST_ROOMS:
        raise NoHouse(len(things))
    return tuple(things)


def is_room_number(house, thing):
    return is_whole_within(thing, 0, len(house) - 1)


def refuse_no_room(house, thing):
    if not is_room_number(house, thing):
        raise NoRoom()


def doors_of(house, rooms):
    doors = []
    for room in rooms:
        doors.extend(house[room])
    return doors


def come_to(house, room):
    refuse_no_room(house, room)
    met = [room]
    looked_at = 0
    while looked_at < len(met):
        doors = house[met[looked_at]]
        for door in doors:
            if door >= 0 and door not in met:
                met.append(door)
        looked_at += 1
    return tuple(sorted(met))


def gates_from(house, room):
    doors = doors_of(house, come_to(house, room))
    return tuple([gate for gate in range(-GATES_MANY, 0) if gate in doors])


def trap(house):
    # A room with a door out, or to a room that fell away, falls away, till no more does.
    staying = list(range(len(house)))
    many = len(staying) + 1
    while len(staying) < many:
        many = len(staying)
        staying = [room for room in staying if all([door in staying for door in house[room]])]
    return tuple(staying)


def is_open(house):
    return trap(house) == ()


def refuse_not_open(house):
    rooms = trap(house)
    if rooms != ():
        raise NotOpen(rooms[0])


def is_shut(house):
    return all([min(doors) >= 0 for doors in house])


def refuse_not_shut(house):
    if not is_shut(house):
        raise NotShut()


def trap_holds(house, thing):
    if not is_tuple_within(thing, 1, len(house)):
        return False
    # Only numbers of rooms can be put in order, so this is asked ahead of whether they rise.
    if not all([is_room_number(house, room) for room in thing]):
        return False
    if list(thing) != sorted(set(thing)):
        return False
    return all([door in thing for door in doors_of(house, thing)])


def is_joined(house):
    return all([len(come_to(house, room)) == len(house) for room in range(len(house))])


def doors_to(house, room):
    return sum([doors.count(room) for doors in house])


def is_balanced(house):
    if not is_shut(house):
        return False
    return all([doors_to(house, room) == len(doors) for room, doors in enumerate(house)])


def doors_many(house):
    return sum([len(doors) for doors in house])
