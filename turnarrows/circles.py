"""All tours that begin with the first door of room 0: how many, which, and the one of a number."""

from turnarrows.errors import NoRow, TooGreat
from turnarrows.houses import come_to
from turnarrows.kinds import is_whole_within, with_at
from turnarrows.squares import determinant, doors_square, minor
from turnarrows.tours import refuse_no_touring

MOST_TOURS = 300


class Trip:
    """A tour that is begun, and the doors of each room that are left for it."""

    def __init__(self, house, leavings, left_doors, place):
        self.house = house
        self.leavings = leavings
        self.left_doors = left_doors
        self.place = place

    def ways(self):
        """Where the doors that are left lead, room by room."""
        told = []
        for doors, left in zip(self.house, self.left_doors):
            told.append(tuple([doors[door] for door in left]))
        return tuple(told)

    def gone_by(self, door):
        rest_of_doors = tuple([other for other in self.left_doors[self.place] if other != door])
        left_doors = with_at(self.left_doors, self.place, rest_of_doors)
        leavings = self.leavings + ((self.place, door),)
        return Trip(self.house, leavings, left_doors, self.house[self.place][door])

    def nexts(self):
        return [self.gone_by(door) for door in self.left_doors[self.place]]


def trip_begun(house):
    all_doors = tuple([tuple(range(len(doors))) for doors in house])
    return Trip(house, (), all_doors, 0).gone_by(0)


def is_over(trip):
    return not any(trip.left_doors)


def product_up_to(number):
    told = 1
    for factor in range(1, number + 1):
        told *= factor
    return told


def tours_so_begun(trip):
    """How many tours begin so.

    The last doors of a tour lead to room 0 from each room with doors left, and the other ones come in any order.
    """
    ways = trip.ways()
    rooms = [room for room, doors in enumerate(ways) if doors != () and room != 0]
    told = determinant(minor(doors_square(ways), rooms)) * product_up_to(len(ways[0]))
    for room in rooms:
        told *= product_up_to(len(ways[room]) - 1)
    return told


def may_end(trip):
    """Whether any tour begins so: none does where doors are left that can no longer be come to."""
    ways = trip.ways()
    met = come_to(ways, trip.place)
    return all([doors == () or room in met for room, doors in enumerate(ways)])


def tours_many(house):
    refuse_no_touring(house)
    return tours_so_begun(trip_begun(house))


def tours(house):
    many = tours_many(house)
    if many > MOST_TOURS:
        raise TooGreat(many, MOST_TOURS)
    trips = [trip_begun(house)]
    while not is_over(trips[0]):
        longer = []
        for trip in trips:
            longer.extend([onward for onward in trip.nexts() if may_end(onward)])
        trips = longer
    return [list(trip.leavings) for trip in trips]


def tour_at(house, number):
    refuse_no_touring(house)
    trip = trip_begun(house)
    if not is_whole_within(number, 0, tours_so_begun(trip) - 1):
        raise NoRow()
    ahead = number
    while not is_over(trip):
        chosen = None
        for onward in trip.nexts():
            many = tours_so_begun(onward)
            if chosen is None and ahead < many:
                chosen = onward
            if chosen is None:
                ahead -= many
        trip = chosen
    return list(trip.leavings)
