"""What several tests need: things of every kind, many small houses, and plain second answers."""

from itertools import combinations_with_replacement, product
from random import Random

from turnarrows.errors import ArrowError

GATES = (-3, -2, -1)


def deep(wrap, times):
    thing = 0
    for _ in range(times):
        thing = wrap(thing)
    return thing


def things_of_every_kind():
    """New each time: none of them is a house, a rising tuple of rooms, or a list of rooms."""
    return [
        None, True, False, 0, 1, 2, -1, -3, -4, 10, 10 ** 99, -(10 ** 99),
        "", " ", "0", "~", "-1", "(0,)", "((0,),)", "house",
        [], [0], [1, 0], [None], [[0]], [[-1], [0]], [(0,)], [(0,), (1,)], [(-1,)], ["0"], [True],
        (), ((),), (None,), (True,), (False,), ("",), ("0",), ([],), ([0],), ({},), ({0: 0},), (-1,), (-2, -1),
        (10 ** 99,), (-(10 ** 99),), (0, "1"), (0, None), (0, True), (0, [1]), (0, (1,)), (0, {}), ("0", 0), (None, 0),
        {}, {0: 0}, {0: (0,)}, {"0": [0]}, {(0,): None}, {None: True},
        deep(lambda thing: [thing], 20), deep(lambda thing: (thing,), 20), deep(lambda thing: {0: thing}, 20),
        deep(lambda thing: {"a": [thing, None]}, 10), deep(lambda thing: ([thing], True), 10),
    ]


def no_rooms_of(house):
    """What is no number of a room of the house, of every kind."""
    many = len(house)
    return [
        many, many + 1, 10 ** 99, -1, -2, -3, -4, -many, -(10 ** 99),
        True, False, None, "", "0", "room", [], [0], [[0]], (), (0,), ((0,),), {}, {0: 0}, {"0": None},
        deep(lambda thing: [thing], 20), deep(lambda thing: (thing,), 20), deep(lambda thing: {0: thing}, 20),
    ]


def small_houses():
    """All houses of one room and of two with few doors, and those of three but for the order of doors."""
    for many in (1, 2, 3):
        for doors in product((-3, -2, -1, 0), repeat=many):
            yield (doors,)
    pairs = [doors for many in (1, 2) for doors in product((-3, -1, 0, 1), repeat=many)]
    for house in product(pairs, repeat=2):
        yield house
    threes = [doors for many in (1, 2) for doors in combinations_with_replacement((-2, 0, 1, 2), many)]
    for house in product(threes, repeat=3):
        yield house


def ring_house(many):
    return tuple(((room + 1) % many,) for room in range(many))


def path_house(many):
    """Each room leads to the next one, the last one out by -2."""
    return tuple((room + 1,) for room in range(many - 1)) + ((-2,),)


def great_houses():
    """Houses up to ten rooms and six doors, in which what is asked lies several doors away."""
    yield ring_house(10)
    yield path_house(10)
    yield tuple(reversed([(room - 1,) if room else (-3,) for room in range(10)]))
    yield tuple((max(room - 1, 0),) for room in range(10))
    yield ((1,), (2,), (3, 4), (1,), (5,), (6, -1), (4,))
    yield ((5, -1), (2,), (3,), (1,), (0, 1), (0, -3), (6,))
    yield tuple(tuple((room * door + door) % 10 for door in range(6)) for room in range(10))
    yield tuple(tuple((room + door) % 10 for door in range(1, 7)) for room in range(10))
    yield tuple((room, (room + 5) % 10) for room in range(10))
    yield ((9, 9, 9, 9, 9, 9),) + ((0,),) * 8 + ((0, 1, 2, 3, 4, -1),)
    yield ((3,), (-1,), (4,), (0,), (-2, 4), (-3, 2))


def houses():
    yield from small_houses()
    yield from great_houses()


def reached(house):
    """By Warshall's way, unlike a walk from room to room: reached(house)[a][b] where b is come to from a."""
    many = len(house)
    way = [[a == b or b in house[a] for b in range(many)] for a in range(many)]
    for over in range(many):
        for a in range(many):
            for b in range(many):
                way[a][b] = way[a][b] or (way[a][over] and way[over][b])
    return way


def rooms_from(house, room):
    return tuple(other for other in range(len(house)) if reached(house)[room][other])


def gates_met(house, room):
    return tuple(gate for gate in GATES if any(gate in house[other] for other in rooms_from(house, room)))


def no_gate_rooms(house):
    return tuple(room for room in range(len(house)) if gates_met(house, room) == ())


def no_arrows_of(house):
    """What is no arrows of the house, of every kind."""
    sizes = [len(doors) for doors in house]
    noughts = (0,) * len(house)
    wrong = [
        noughts + (0,), noughts[1:], list(noughts), [0], {}, dict(enumerate(noughts)), None, True, False, 0, 1, -1,
        10 ** 99, "", "0" * len(house), "arrows", (), (noughts,), house, [noughts],
        deep(lambda thing: [thing], 20), deep(lambda thing: (thing,), 20), deep(lambda thing: {0: thing}, 20),
    ]
    for room, size in enumerate(sizes):
        for number in (size, size + 1, -1, -size, 10 ** 99, -(10 ** 99), True, False, None, "", "0", [], [0], (), (0,), {}):
            wrong.append(noughts[:room] + (number,) + noughts[room + 1:])
    return wrong


def no_walkers_of(house, most=100):
    """What is no walkers of the house, of every kind."""
    noughts = (0,) * len(house)
    wrong = [
        noughts + (0,), noughts[1:], list(noughts), [0], {}, dict(enumerate(noughts)), None, True, False, 0, 1, -1,
        most, 10 ** 99, "", "0" * len(house), "walkers", (), (noughts,), house, [noughts],
        deep(lambda thing: [thing], 20), deep(lambda thing: (thing,), 20), deep(lambda thing: {0: thing}, 20),
    ]
    for room in range(len(house)):
        for number in (most + 1, -1, 10 ** 99, -(10 ** 99), True, False, None, "", "0", [], [0], (), (0,), {}):
            wrong.append(noughts[:room] + (number,) + noughts[room + 1:])
    return wrong


def all_arrows(house):
    return list(product(*[range(len(doors)) for doors in house]))


def some_arrows(house, most=4):
    """At most so many arrows of the house, the first and the last ones among them."""
    many = 1
    for doors in house:
        many *= len(doors)
    chosen = range(many) if many <= most else sorted({number * (many - 1) // (most - 1) for number in range(most)})
    told = []
    for number in chosen:
        arrows = []
        for doors in reversed(house):
            number, arrow = divmod(number, len(doors))
            arrows.append(arrow)
        told.append(tuple(reversed(arrows)))
    return told


def drawn_houses(seed, many, rooms_most=6, doors_most=4, gates=GATES, none=()):
    """So many houses, always the same ones for a seed; a door leads to a gate of `gates`, or to any room."""
    draw = Random(seed)
    told = []
    while len(told) < many:
        rooms = draw.randint(1, rooms_most)
        ways = list(range(rooms)) * 2 + list(gates)
        house = tuple(tuple(draw.choice(ways) for _ in range(draw.randint(1, doors_most))) for _ in range(rooms))
        if house not in none:
            told.append(house)
    return told


def is_way_out(house):
    return no_gate_rooms(house) == ()


def open_houses():
    """Houses from each room of which a gate can be come to: small ones, drawn ones, and greater ones."""
    small = [house for number, house in enumerate(small_houses()) if number % 23 == 0]
    drawn = drawn_houses(11, 60) + drawn_houses(12, 20, rooms_most=10, doors_most=6)
    return [house for house in small + drawn + list(great_houses()) if is_way_out(house)]


def trapped_houses():
    """Houses that are not open: shut ones and such as are neither."""
    return [house for house in drawn_houses(13, 60, gates=(-1,)) + list(great_houses()) if not is_way_out(house)]


def shut_houses():
    small = [house for number, house in enumerate(small_houses()) if number % 3 == 0]
    told = small + drawn_houses(14, 60, gates=()) + drawn_houses(15, 10, rooms_most=9, doors_most=3, gates=())
    return [house for house in told + list(great_houses()) if not any(door < 0 for doors in house for door in doors)]


def refusal(asked, *handed):
    """The class and the fields of what the call is refused with; None where it is not."""
    try:
        asked(*handed)
    except ArrowError as error:
        return (type(error), vars(error))
    return None


def one_step(house, arrows, room):
    """The words of the document on one leaving, without a remainder."""
    door = arrows[room]
    turned = list(arrows)
    turned[room] = door + 1 if door + 1 < len(house[room]) else 0
    return (tuple(turned), house[room][door])


def walked_out(house, arrows, room):
    """By single steps: the gate, the arrows and the leavings."""
    leavings = [0] * len(house)
    place = room
    while place >= 0:
        leavings[place] += 1
        arrows, place = one_step(house, arrows, place)
    return (place, arrows, tuple(leavings))


def all_led_out(house, arrows, walkers):
    """One walker wholly behind the other, from the last room on: the gates, the arrows and the leavings."""
    gates = [0, 0, 0]
    leavings = [0] * len(house)
    for room in reversed(range(len(house))):
        for _ in range(walkers[room]):
            gate, arrows, more = walked_out(house, arrows, room)
            gates[-1 - gate] += 1
            leavings = [one + other for one, other in zip(leavings, more)]
    return (tuple(gates), arrows, tuple(leavings))


def touring_houses(seed=16, many=40, rooms_most=5, doors_most=4):
    """Balanced and joined houses: doors along closed walks through the rooms, in a drawn order."""
    draw = Random(seed)
    told = [((0,),), ((0, 0),), ((0,) * 6,), ((1,), (0,)), ((1, 2), (2, 0), (0, 1)), ring_house(10)]
    while len(told) < many:
        rooms = draw.randint(1, rooms_most)
        doors = [[] for _ in range(rooms)]
        for _ in range(draw.randint(1, 3)):
            way = draw.sample(range(rooms), draw.randint(1, rooms))
            for here, there in zip(way, way[1:] + way[:1]):
                doors[here].append(there)
        house = tuple(tuple(draw.sample(each, len(each))) for each in doors)
        if all(1 <= len(each) <= doors_most for each in house) and all(all(row) for row in reached(house)):
            told.append(house)
    return told


def no_touring_houses():
    """Houses that are not balanced or not joined."""
    told = [((0,), (1,)), ((-1,),), ((1,), (0,), (2,)), ((0, 1), (1,)), ((1,), (-1,)), ((1, 1), (0,)), path_house(10)]
    for house in drawn_houses(17, 60, rooms_most=4) + shut_houses()[::6]:
        leads = [door for doors in house for door in doors]
        balanced = all(leads.count(room) == len(doors) for room, doors in enumerate(house)) and min(leads) >= 0
        if not balanced or not all(all(row) for row in reached(house)):
            told.append(house)
    return told
