"""Houses written as texts, and read from them."""

from turnarrows.errors import NoText
from turnarrows.houses import MOST_DOORS, MOST_ROOMS

WRITTEN_DOORS = {
    "-3": -3, "-2": -2, "-1": -1,
    "0": 0, "1": 1, "2": 2, "3": 3, "4": 4, "5": 5, "6": 6, "7": 7, "8": 8, "9": 9,
}


def shown(house):
    return "\n".join([" ".join([str(door) for door in doors]) for doors in house])


def is_written_door(word, rooms_many):
    return word in WRITTEN_DOORS and WRITTEN_DOORS[word] < rooms_many


def is_written_room(words, rooms_many):
    return len(words) <= MOST_DOORS and all([is_written_door(word, rooms_many) for word in words])


def read(text):
    if not isinstance(text, str):
        raise NoText(0)
    rows = text.split("\n")
    house = []
    for at, row in enumerate(rows):
        words = row.split(" ")
        if at >= MOST_ROOMS or not is_written_room(words, len(rows)):
            raise NoText(at + 1)
        house.append(tuple([WRITTEN_DOORS[word] for word in words]))
    return tuple(house)
