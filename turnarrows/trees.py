"""Where last doors lead in the end: rows of rooms by which they lead out, and rings in which they lead round."""

from turnarrows.arrows import going_round, last_ways, refuse_no_arrows
from turnarrows.houses import is_room_number, refuse_not_open
from turnarrows.kinds import is_tuple_within


def may_come(last, room, row):
    return last[room] < 0 or last[room] in row


def row_of(house, arrows):
    refuse_no_arrows(house, arrows)
    refuse_not_open(house)
    last = last_ways(house, arrows)
    row = []
    while len(row) < len(house):
        free = [room for room in range(len(house)) if room not in row and may_come(last, room, row)]
        if free == []:
            return None
        row.append(free[0])
    return row


def row_holds(house, arrows, thing):
    refuse_no_arrows(house, arrows)
    if not isinstance(thing, list) or len(thing) != len(house):
        return False
    last = last_ways(house, arrows)
    for at, room in enumerate(thing):
        if not is_room_number(house, room):
            return False
        if room in thing[:at] or not may_come(last, room, thing[:at]):
            return False
    return True


def ring_from(last, room):
    """The ring that is come to from the room, beginning with its least room; last doors never lead out there."""
    place = room
    # Behind so many steps one is on the ring, wherever one began.
    for turn in range(len(last)):
        place = last[place]
    ring = [place]
    while last[ring[-1]] != place:
        ring.append(last[ring[-1]])
    least = ring.index(min(ring))
    return tuple(ring[least:] + ring[:least])


def rings_of(last, rooms):
    """All rings of these rooms, as tuples rise, each beginning with its least room."""
    rings = []
    for room in going_round(last, rooms):
        ring = ring_from(last, room)
        if ring not in rings:
            rings.append(ring)
    return sorted(rings)


def ring_of(house, arrows):
    refuse_no_arrows(house, arrows)
    last = last_ways(house, arrows)
    staying = going_round(last, list(range(len(house))))
    if staying == []:
        return None
    return ring_from(last, staying[0])


def is_ring(house, last, thing):
    if not is_tuple_within(thing, 1, len(house)):
        return False
    if not all([is_room_number(house, room) for room in thing]):
        return False
    if len(set(thing)) != len(thing):
        return False
    return all([last[room] == thing[(at + 1) % len(thing)] for at, room in enumerate(thing)])


def ring_holds(house, arrows, thing):
    refuse_no_arrows(house, arrows)
    return is_ring(house, last_ways(house, arrows), thing)
