"""Many walkers: led out to their rest, by whatever order, and the paper of a rest."""

from turnarrows.arrows import going_round, last_ways, refuse_no_arrows, turned_by
from turnarrows.errors import Nobody, NoWalkers
from turnarrows.houses import GATES_MANY, is_room_number, refuse_not_open
from turnarrows.kinds import is_tuple_within, is_whole, is_whole_within

MOST_WALKERS = 100


def is_walkers(house, thing, most):
    if not is_tuple_within(thing, len(house), len(house)):
        return False
    return all([is_whole_within(many, 0, most) for many in thing])


def refuse_no_walkers(house, thing):
    if not is_walkers(house, thing, MOST_WALKERS):
        raise NoWalkers()


def uses_of(doors_many, arrow, leavings):
    """How often each door of one room is used: the one that the arrow shows comes first."""
    uses = []
    for door in range(doors_many):
        behind = (door - arrow) % doors_many
        uses.append((leavings + doors_many - 1 - behind) // doors_many)
    return uses


def uses_of_all(house, arrows, leavings):
    told = []
    for doors, arrow, many in zip(house, arrows, leavings):
        told.append(tuple(uses_of(len(doors), arrow, many)))
    return tuple(told)


class Crowd:
    """Walkers on their way: how all stands now."""

    def __init__(self, house, arrows, walkers):
        self.house = house
        self.turning = list(arrows)
        self.standing = list(walkers)
        self.gone = [0] * GATES_MANY
        self.left = [0] * len(house)

    def let_leave(self, room, many):
        doors = self.house[room]
        uses = uses_of(len(doors), self.turning[room], many)
        self.turning[room] = (self.turning[room] + many) % len(doors)
        self.left[room] += many
        self.standing[room] -= many
        for door, times in zip(doors, uses):
            if door >= 0:
                self.standing[door] += times
            else:
                self.gone[-door - 1] += times


def rest_of(house, arrows, walkers):
    """As rest tells it, but asked of an open house, arrows and walkers alone, which may be any number."""
    crowd = Crowd(house, arrows, walkers)
    while any(crowd.standing):
        for room in range(len(house)):
            # All at once: by whatever order they come to the same rest.
            if crowd.standing[room] > 0:
                crowd.let_leave(room, crowd.standing[room])
    return (tuple(crowd.gone), tuple(crowd.turning), tuple(crowd.left))


def refuse_no_crowd(house, arrows, walkers):
    refuse_no_arrows(house, arrows)
    refuse_no_walkers(house, walkers)


def rest(house, arrows, walkers):
    refuse_no_crowd(house, arrows, walkers)
    refuse_not_open(house)
    return rest_of(house, arrows, walkers)


def left_by(house, arrows, walkers, rooms):
    refuse_no_crowd(house, arrows, walkers)
    crowd = Crowd(house, arrows, walkers)
    for at, room in enumerate(rooms):
        if not is_room_number(house, room) or crowd.standing[room] == 0:
            raise Nobody(at)
        crowd.let_leave(room, 1)
    return (tuple(crowd.turning), tuple(crowd.standing), tuple(crowd.gone))


def doors_used(house, arrows, leavings):
    refuse_no_arrows(house, arrows)
    return uses_of_all(house, arrows, leavings)


def is_leavings(house, thing):
    if not is_tuple_within(thing, len(house), len(house)):
        return False
    return all([is_whole(many) and many >= 0 for many in thing])


def come_by(house, uses):
    """How many come to each room when its doors are used so often."""
    come = [0] * len(house)
    for doors, times in zip(house, uses):
        for door, many in zip(doors, times):
            if door >= 0:
                come[door] += many
    return come


def is_rest(house, arrows, walkers, thing):
    refuse_no_crowd(house, arrows, walkers)
    refuse_not_open(house)
    if not is_leavings(house, thing):
        return False
    come = come_by(house, uses_of_all(house, arrows, thing))
    if not all([stood + by == many for stood, by, many in zip(walkers, come, thing)]):
        return False
    last = last_ways(house, turned_by(house, arrows, thing))
    return going_round(last, [room for room, many in enumerate(thing) if many > 0]) == []
