"""Arrows: their form, how they turn, and where the last doors lead."""

from turnarrows.errors import NoArrows
from turnarrows.houses import refuse_no_room
from turnarrows.kinds import is_tuple_within, is_whole_within, with_at


def is_arrows(house, thing):
    if not is_tuple_within(thing, len(house), len(house)):
        return False
    return all([is_whole_within(arrow, 0, len(doors) - 1) for arrow, doors in zip(thing, house)])


def refuse_no_arrows(house, thing):
    if not is_arrows(house, thing):
        raise NoArrows()


def arrows_many(house):
    many = 1
    for doors in house:
        many *= len(doors)
    return many


def turned_by(house, arrows, turns):
    # Turns below nought turn back.
    return tuple([(arrow + turn) % len(doors) for arrow, turn, doors in zip(arrows, turns, house)])


def turned_once(house, arrows, room, turn):
    return with_at(arrows, room, (arrows[room] + turn) % len(house[room]))


def turned_at(house, arrows, room):
    refuse_no_arrows(house, arrows)
    refuse_no_room(house, room)
    return turned_once(house, arrows, room, 1)


def last_ways(house, arrows):
    # Ahead of the first door lies the last one: Python's index -1 is just that.
    return tuple([doors[arrow - 1] for arrow, doors in zip(arrows, house)])


def last_doors(house, arrows):
    refuse_no_arrows(house, arrows)
    return last_ways(house, arrows)


def going_round(last, rooms):
    """Those of the rooms from which last doors never lead out of them, since they lead into a ring."""
    staying = list(rooms)
    many = len(staying) + 1
    while len(staying) < many:
        many = len(staying)
        staying = [room for room in staying if last[room] in staying]
    return staying
