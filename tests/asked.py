"""Many questions to all modules, made anew each time: functions with what is handed in to them."""

from tests.things import great_houses, no_arrows_of, no_rooms_of, no_walkers_of, some_arrows, things_of_every_kind
from turnarrows.again import again_after, again_many, all_again, comes_again, sent
from turnarrows.arrows import arrows_many, is_arrows, last_doors, turned_at
from turnarrows.back import back_step, back_walk, came_from, led_back, led_back_all, round_back
from turnarrows.circles import tour_at, tours, tours_many
from turnarrows.desk import Desk
from turnarrows.errors import ArrowError
from turnarrows.houses import (
    come_to, doors_many, gates_from, house_of, is_balanced, is_house, is_joined, is_open, is_shut, trap, trap_holds,
)
from turnarrows.likes import (
    are_alike, behind_gives, how_many_kinds, kind_sizes, least_like, like_none, settled, why_alike,
)
from turnarrows.rests import doors_used, is_rest, left_by, rest
from turnarrows.rounds import in_round, round_of, turns_of, why_not, why_not_holds
from turnarrows.shares import share_of, shares, shares_hold
from turnarrows.texts import read, shown
from turnarrows.tours import come_round, doors_by, is_tour, on_ring, tour_of
from turnarrows.trees import ring_holds, ring_of, row_holds, row_of
from turnarrows.walks import out, step, walk, walk_wrong
from turnarrows.weights import even, most_off, off_by, value, weights

OF_HOUSES = (is_open, is_shut, is_joined, is_balanced, trap, doors_many, is_house, arrows_many)

CHOSEN = (
    ((0,),), ((-1,),), ((1,), (0,)), ((1,), (-1,)), ((-2,), (0,)), ((0,), (1,)), ((1, 1), (0,)),
    ((1, 2), (2, 0), (0, 1)), ((1, 2), (2, 0), (0, -3)), ((1,), (2,), (2,)),
) + tuple(great_houses())


def answer(asked, handed):
    """What is told, or the class and fields of the refusal."""
    try:
        return asked(*handed)
    except ArrowError as error:
        return (type(error), vars(error))


def spread(things, most):
    """At most so many of the things, from everywhere among them."""
    return things[::max(1, len(things) // most)]


def of_houses(house):
    asked = [(ask, [house]) for ask in OF_HOUSES]
    asked.append((house_of, [list(house)]))
    asked.append((house_of, [list(house) + [(0, len(house) + 2)]]))
    asked.extend((ask, [house, room]) for ask in (come_to, gates_from) for room in range(len(house)))
    asked.extend((ask, [house, thing]) for ask in (come_to, gates_from) for thing in no_rooms_of(house))
    asked.extend((trap_holds, [house, thing]) for thing in [(0,), (0, 1), (1, 2), *things_of_every_kind()])
    return asked


def of_walkers(house):
    asked = []
    rooms = [*range(len(house)), *spread(no_rooms_of(house), 4)]
    rows = [(0,) * len(house), (2,) * len(house), *spread(no_walkers_of(house), 4)]
    for arrows in some_arrows(house, 3) + spread(no_arrows_of(house), 5):
        asked.extend([(is_arrows, [house, arrows]), (last_doors, [house, arrows])])
        asked.append((doors_used, [house, arrows, (7,) * len(house)]))
        for room in rooms:
            asked.extend((ask, [house, arrows, room]) for ask in (turned_at, step, out))
            asked.append((walk, [house, arrows, room, 30]))
            asked.extend((walk_wrong, [house, arrows, room, places]) for places in ([0], [1, [2]], None, {0: [1]}))
        for walkers in rows:
            asked.append((rest, [house, arrows, walkers]))
            asked.extend((left_by, [house, arrows, walkers, order]) for order in ([0], [0, 0, [1]], []))
            asked.extend((is_rest, [house, arrows, walkers, thing]) for thing in ((0,) * len(house), [0], {0: [0]}))
    return asked


def papers_of(house):
    return [("gone", 1), ("ring", (0,)), ["ring", [0]], ("ring", [0]), {"gone": [1]}, [0], list(range(len(house)))]


def of_rounds(house):
    asked = [(again_many, [house]), (all_again, [house])]
    rooms = [*range(len(house)), *spread(no_rooms_of(house), 4)]
    asked.extend((sent, [house, room]) for room in rooms)
    for arrows in some_arrows(house, 3) + spread(no_arrows_of(house), 5):
        asked.extend((ask, [house, arrows]) for ask in (comes_again, row_of, ring_of))
        asked.extend((ask, [house, arrows, paper]) for ask in (row_holds, ring_holds) for paper in papers_of(house))
        asked.extend((led_back_all, [house, arrows, (many,) * len(house)]) for many in (0, 2, 101))
        for room in rooms:
            asked.extend((ask, [house, arrows, room]) for ask in (
                again_after, came_from, led_back, back_walk, round_back, round_of, turns_of, in_round, why_not,
            ))
            asked.append((back_step, [house, arrows, 0, room]))
            asked.extend((why_not_holds, [house, arrows, room, paper]) for paper in papers_of(house))
    return asked


def of_shares(house):
    asked = [(kind_sizes, [house]), (how_many_kinds, [house])]
    rooms = [*range(len(house)), *spread(no_rooms_of(house), 4)]
    rows = [(0,) * len(house), (10 ** 30,) * len(house), (100,) * len(house), *spread(no_walkers_of(house, 10 ** 30), 4)]
    asked.extend((like_none, [house, room]) for room in rooms)
    asked.extend((ask, [house, row]) for ask in (least_like, settled) for row in rows)
    asked.extend((behind_gives, [house, row, tuple(range(-1, len(house) - 1))]) for row in rows)
    asked.extend((ask, [house, one, other]) for ask in (are_alike, why_alike) for one in rows for other in rows)
    for gate in (-1, -2, -3):
        asked.extend((ask, [house, gate]) for ask in (shares, weights, most_off))
        asked.extend((shares_hold, [house, gate, thing]) for thing in (((1, 1),) * len(house), ([1, 1],), [(1, 1)], None))
        asked.extend((share_of, [house, gate, row]) for row in rows)
        for arrows in some_arrows(house, 2) + spread(no_arrows_of(house), 3):
            asked.extend((value, [house, gate, arrows, row, 7]) for row in rows)
            asked.extend((off_by, [house, gate, arrows, row]) for row in rows)
            asked.extend((even, [house, gate, arrows, room, many]) for room in rooms for many in (0, 3, 101, [4]))
    return asked


def said(rows):
    """What a new desk answers to the rows, one behind the other."""
    desk = Desk()
    return [answer(desk.say, [row]) for row in rows]


def of_tours(house):
    asked = [(ask, [house]) for ask in (tours_many, tours, shown)]
    asked.append((read, [shown(house)]))
    asked.append((read, [shown(house) + " x"]))
    rooms = [*range(len(house)), *spread(no_rooms_of(house), 4)]
    for arrows in some_arrows(house, 3) + spread(no_arrows_of(house), 3):
        asked.extend((ask, [house, arrows, room]) for ask in (tour_of, on_ring, come_round) for room in rooms)
    for ask in (is_tour, doors_by):
        asked.extend((ask, [house, thing]) for thing in ([(0, 0)], [[0, 0]], [(0, 0), (1, 0)], None, {0: [(0, 0)]}))
    asked.extend((tour_at, [house, thing]) for thing in (0, 1, -1, True, None, [0], 10 ** 99))
    row = "house " + shown(house).replace("\n", " ; ")
    asked.append((said, [[row, "put 0 3", "step 0", "arrow 0 0", "out", "gates", "back", "rest", "many", "tours", "why 0",
                          "round 0", "led 0", "shares 1", "kinds", "least", "ring", "again", "shown", [], None, "back"]]))
    return asked


def questions():
    asked = []
    for house in CHOSEN:
        asked.extend(of_houses(house))
        asked.extend(of_walkers(house))
        asked.extend(of_rounds(house))
        asked.extend(of_shares(house))
        asked.extend(of_tours(house))
    asked.extend((is_house, [thing]) for thing in things_of_every_kind())
    asked.extend((house_of, [[thing, (0,)]]) for thing in things_of_every_kind())
    return asked
