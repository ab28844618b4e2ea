"""What several tests need: things of every kind, many small houses, and plain second answers."""

from itertools import combinations_with_replacement, product

GATES = (-3, -2, -1)


def deep(wrap, times):
    thing = 0
    for _ in range(times):
        thing = wrap(thing)
    return thing


def things_of_every_kind():
    """New each time: none of them is a house, a rising tuple of rooms, or a list of rooms."""
    return [
        None, True, False, 0, 1, 2, -1, -3, -4, 10, 10 ** 99, -(10 ** 99),
        "", " ", "0", "~", "-1", "(0,)", "((0,),)", "house",
        [], [0], [1, 0], [None], [[0]], [[-1], [0]], [(0,)], [(0,), (1,)], [(-1,)], ["0"], [True],
        (), ((),), (None,), (True,), (False,), ("",), ("0",), ([],), ([0],), ({},), ({0: 0},), (-1,), (-2, -1),
        (10 ** 99,), (-(10 ** 99),), (0, "1"), (0, None), (0, True), (0, [1]), (0, (1,)), (0, {}), ("0", 0), (None, 0),
        {}, {0: 0}, {0: (0,)}, {"0": [0]}, {(0,): None}, {None: True},
        deep(lambda thing: [thing], 20), deep(lambda thing: (thing,), 20), deep(lambda thing: {0: thing}, 20),
        deep(lambda thing: {"a": [thing, None]}, 10), deep(lambda thing: ([thing], True), 10),
    ]


def no_rooms_of(house):
    """What is no number of a room of the house, of every kind."""
    many = len(house)
    return [
        many, many + 1, 10 ** 99, -1, -2, -3, -4, -many, -(10 ** 99),
        True, False, None, "", "0", "room", [], [0], [[0]], (), (0,), ((0,),), {}, {0: 0}, {"0": None},
        deep(lambda thing: [thing], 20), deep(lambda thing: (thing,), 20), deep(lambda thing: {0: thing}, 20),
    ]


def small_houses():
    """All houses of one room and of two with few doors, and those of three but for the order of doors."""
    for many in (1, 2, 3):
        for doors in product((-3, -2, -1, 0), repeat=many):
            yield (doors,)
    pairs = [doors for many in (1, 2) for doors in product((-3, -1, 0, 1), repeat=many)]
    for house in product(pairs, repeat=2):
        yield house
    threes = [doors for many in (1, 2) for doors in combinations_with_replacement((-2, 0, 1, 2), many)]
    for house in product(threes, repeat=3):
        yield house


def ring_house(many):
    return tuple(((room + 1) % many,) for room in range(many))


def path_house(many):
    """Each room leads to the next one, the last one out by -2."""
    return tuple((room + 1,) for room in range(many - 1)) + ((-2,),)


def great_houses():
    """Houses up to ten rooms and six doors, in which what is asked lies several doors away."""
    yield ring_house(10)
    yield path_house(10)
    yield tuple(reversed([(room - 1,) if room else (-3,) for room in range(10)]))
    yield tuple((max(room - 1, 0),) for room in range(10))
    yield ((1,), (2,), (3, 4), (1,), (5,), (6, -1), (4,))
    yield ((5, -1), (2,), (3,), (1,), (0, 1), (0, -3), (6,))
    yield tuple(tuple((room * door + door) % 10 for door in range(6)) for room in range(10))
    yield tuple(tuple((room + door) % 10 for door in range(1, 7)) for room in range(10))
    yield tuple((room, (room + 5) % 10) for room in range(10))
    yield ((9, 9, 9, 9, 9, 9),) + ((0,),) * 8 + ((0, 1, 2, 3, 4, -1),)
    yield ((3,), (-1,), (4,), (0,), (-2, 4), (-3, 2))


def houses():
    yield from small_houses()
    yield from great_houses()


def reached(house):
    """By Warshall's way, unlike a walk from room to room: reached(house)[a][b] where b is come to from a."""
    many = len(house)
    way = [[a == b or b in house[a] for b in range(many)] for a in range(many)]
    for over in range(many):
        for a in range(many):
            for b in range(many):
                way[a][b] = way[a][b] or (way[a][over] and way[over][b])
    return way


def rooms_from(house, room):
    return tuple(other for other in range(len(house)) if reached(house)[room][other])


def gates_met(house, room):
    return tuple(gate for gate in GATES if any(gate in house[other] for other in rooms_from(house, room)))


def no_gate_rooms(house):
    return tuple(room for room in range(len(house)) if gates_met(house, room) == ())
