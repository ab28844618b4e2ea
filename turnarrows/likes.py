"""Walkers like one another: rows of walkers, what gives make of them, and their kinds."""

from turnarrows.errors import NoWalkers
from turnarrows.houses import refuse_no_room, refuse_not_open
from turnarrows.rests import is_walkers
from turnarrows.squares import determinant, doors_square, least_by, least_times, less, solved, stairs, turned_over

MOST_ALIKE = 1000000000000000000000000000000


def refuse_no_rows(house, rows):
    for walkers in rows:
        if not is_walkers(house, walkers, MOST_ALIKE):
            raise NoWalkers()
    refuse_not_open(house)


def given(house, walkers, gives):
    told = list(walkers)
    for row, times in zip(doors_square(house), gives):
        told = less(told, times, row)
    return told


def behind_gives(house, walkers, gives):
    refuse_no_rows(house, [walkers])
    return tuple(given(house, walkers, gives))


def gives_between(house, one, other):
    """The gives by which the one becomes the other; None where there are none."""
    told = solved(turned_over(doors_square(house)), less(one, 1, other))
    bottom = told[1]
    if any([top % bottom != 0 for top in told[0]]):
        return None
    return tuple([top // bottom for top in told[0]])


def why_alike(house, one, other):
    refuse_no_rows(house, [one, other])
    return gives_between(house, one, other)


def are_alike(house, one, other):
    return why_alike(house, one, other) is not None


def least_like(house, walkers):
    refuse_no_rows(house, [walkers])
    return tuple(least_by(stairs(doors_square(house)), walkers))


def kind_sizes(house):
    refuse_not_open(house)
    return tuple([stair[at] for at, stair in enumerate(stairs(doors_square(house)))])


def how_many_kinds(house):
    refuse_not_open(house)
    return determinant(doors_square(house))


def like_none(house, room):
    refuse_no_room(house, room)
    refuse_not_open(house)
    return least_times(doors_square(house), room)


def sure_gives(house, walkers):
    """Gives that each room comes to at least: no room may keep as many as it has doors.

    They bring rows of very many walkers close to the end at once.
    """
    spare = [many - len(doors) + 1 for many, doors in zip(walkers, house)]
    told = solved(turned_over(doors_square(house)), spare)
    return [max(0, -(-top // told[1])) for top in told[0]]


def gives_due(room, doors, many):
    """How often a room with so many walkers gives till it has fewer than doors."""
    if many < len(doors):
        return 0
    going = len(doors) - doors.count(room)
    return -(-(many - len(doors) + 1) // going)


def settled(house, walkers):
    refuse_no_rows(house, [walkers])
    gives = sure_gives(house, walkers)
    standing = given(house, walkers, gives)
    rows = doors_square(house)
    moving = True
    while moving:
        moving = False
        for room, doors in enumerate(house):
            due = gives_due(room, doors, standing[room])
            if due > 0:
                standing = less(standing, due, rows[room])
                gives[room] += due
                moving = True
    return (tuple(standing), tuple(gives))
