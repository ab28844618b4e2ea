"""Arrows that come again: how many there are, which, and what walkers do to them."""

from turnarrows.arrows import going_round, last_ways, refuse_no_arrows
from turnarrows.errors import NeverBack, TooGreat
from turnarrows.houses import is_open, refuse_no_room, refuse_not_open
from turnarrows.squares import determinant, doors_square, least_times
from turnarrows.walks import led_out, refuse_no_state

MOST_TOLD = 300


def lead_out(house, arrows):
    return going_round(last_ways(house, arrows), list(range(len(house)))) == []


def refuse_never_back(house, arrows):
    if not lead_out(house, arrows):
        raise NeverBack()


def comes_again(house, arrows):
    refuse_no_arrows(house, arrows)
    refuse_not_open(house)
    return lead_out(house, arrows)


def again_many(house):
    refuse_not_open(house)
    return determinant(doors_square(house))


def may_go_on(house, begun):
    """Whether arrows that come again begin so: there is a way out, by last doors alone where they are chosen."""
    chosen = tuple([(doors[arrow - 1],) for arrow, doors in zip(begun, house)])
    return is_open(chosen + house[len(begun):])


def all_again(house):
    many = again_many(house)
    if many > MOST_TOLD:
        raise TooGreat(many, MOST_TOLD)
    told = [()]
    for doors in house:
        longer = []
        for begun in told:
            ways = [begun + (arrow,) for arrow in range(len(doors))]
            longer.extend([way for way in ways if may_go_on(house, way)])
        told = longer
    return told


def sent(house, room):
    refuse_no_room(house, room)
    arrows_again = all_again(house)
    numbers = {}
    for number, arrows in enumerate(arrows_again):
        numbers[arrows] = number
    return [numbers[led_out(house, arrows, room)[1]] for arrows in arrows_again]


def again_after(house, arrows, room):
    refuse_no_state(house, arrows, room)
    refuse_not_open(house)
    refuse_never_back(house, arrows)
    # Walkers from the room are alike to none behind so many, and then all arrows that come again are as they were.
    return least_times(doors_square(house), room)
