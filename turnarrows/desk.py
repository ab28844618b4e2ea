"""The desk: a house, arrows and walkers that are kept, told by rows and asked by rows."""

from turnarrows.again import again_many, comes_again
from turnarrows.back import led_back
from turnarrows.circles import tours_many
from turnarrows.errors import NoArrows, NoRow, NoWalkers
from turnarrows.houses import GATES_MANY, refuse_no_room
from turnarrows.kinds import with_at
from turnarrows.likes import how_many_kinds, least_like
from turnarrows.rests import left_by, rest
from turnarrows.rounds import round_of, why_not
from turnarrows.shares import shares
from turnarrows.texts import read, shown
from turnarrows.trees import ring_of

HOUSE_WORD = "house "
ROOMS_PARTED = " ; "
FIGURES = "0123456789"
MOST_FIGURES = 60
MOST_STANDING = 100


class Stand:
    """How all stands behind some deeds; it is never changed, so it can be come back to."""

    def __init__(self, house, arrows, walkers, gates):
        self.house = house
        self.arrows = arrows
        self.walkers = walkers
        self.gates = gates


def stand_of(house):
    noughts = (0,) * len(house)
    return Stand(house, noughts, noughts, (0,) * GATES_MANY)


def behind(stand, arrows, walkers, gates):
    """How all stands when so many more have gone out by the gates."""
    gone = tuple([one + more for one, more in zip(stand.gates, gates)])
    return Stand(stand.house, arrows, walkers, gone)


def set_arrow(stand, numbers):
    room = numbers[0]
    refuse_no_room(stand.house, room)
    if numbers[1] >= len(stand.house[room]):
        raise NoArrows()
    return Stand(stand.house, with_at(stand.arrows, room, numbers[1]), stand.walkers, stand.gates)


def put_walkers(stand, numbers):
    room = numbers[0]
    refuse_no_room(stand.house, room)
    if sum(stand.walkers) + numbers[1] > MOST_STANDING:
        raise NoWalkers()
    walkers = with_at(stand.walkers, room, stand.walkers[room] + numbers[1])
    return Stand(stand.house, stand.arrows, walkers, stand.gates)


def let_step(stand, numbers):
    refuse_no_room(stand.house, numbers[0])
    told = left_by(stand.house, stand.arrows, stand.walkers, [numbers[0]])
    return behind(stand, told[0], told[1], told[2])


def let_out(stand, numbers):
    told = rest(stand.house, stand.arrows, stand.walkers)
    return behind(stand, told[1], (0,) * len(stand.house), told[0])


def answer_step(stand, numbers):
    return str(stand.house[numbers[0]][stand.arrows[numbers[0]]])


def in_a_row(numbers):
    return " ".join([str(number) for number in numbers])


def yes_or_no(truth):
    return "yes" if truth else "no"


def tell_shown(stand, numbers):
    return shown(stand.house).replace("\n", ROOMS_PARTED)


def tell_arrows(stand, numbers):
    return in_a_row(stand.arrows)


def tell_walkers(stand, numbers):
    return in_a_row(stand.walkers)


def tell_gates(stand, numbers):
    return in_a_row(stand.gates)


def tell_rest(stand, numbers):
    return in_a_row(rest(stand.house, stand.arrows, stand.walkers)[2])


def tell_again(stand, numbers):
    return yes_or_no(comes_again(stand.house, stand.arrows))


def tell_many(stand, numbers):
    return str(again_many(stand.house))


def tell_ring(stand, numbers):
    ring = ring_of(stand.house, stand.arrows)
    return "none" if ring is None else in_a_row(ring)


def tell_shares(stand, numbers):
    words = []
    for part in shares(stand.house, -numbers[0]):
        top = part[0]
        bottom = part[1]
        words.append(f"{top}/{bottom}")
    return " ".join(words)


def tell_kinds(stand, numbers):
    return str(how_many_kinds(stand.house))


def tell_least(stand, numbers):
    return in_a_row(least_like(stand.house, stand.walkers))


def tell_round(stand, numbers):
    return in_a_row(round_of(stand.house, stand.arrows, numbers[0]))


def tell_why(stand, numbers):
    why = why_not(stand.house, stand.arrows, numbers[0])
    if why is None:
        return "none"
    rooms = [why[1]] if why[0] == "gone" else list(why[1])
    return " ".join([why[0], in_a_row(rooms)])


def tell_led(stand, numbers):
    return in_a_row(led_back(stand.house, stand.arrows, numbers[0])[0])


def tell_tours(stand, numbers):
    return str(tours_many(stand.house))


DEEDS = {"arrow": set_arrow, "put": put_walkers, "step": let_step, "out": let_out}

QUESTIONS = {
    "shown": tell_shown, "arrows": tell_arrows, "walkers": tell_walkers, "gates": tell_gates, "rest": tell_rest,
    "again": tell_again, "many": tell_many, "ring": tell_ring, "shares": tell_shares, "kinds": tell_kinds,
    "least": tell_least, "round": tell_round, "why": tell_why, "led": tell_led, "tours": tell_tours,
}

NUMBERS_MANY = {"arrow": 2, "put": 2, "step": 1, "shares": 1, "round": 1, "why": 1, "led": 1}


def is_number(word):
    if not 1 <= len(word) <= MOST_FIGURES or not all([sign in FIGURES for sign in word]):
        return False
    return word == "0" or word[0] != "0"


def is_row(words):
    if words[0] not in DEEDS and words[0] not in QUESTIONS and words[0] != "back":
        return False
    if len(words) != 1 + NUMBERS_MANY.get(words[0], 0):
        return False
    return all([is_number(word) for word in words[1:]])


def numbers_of(words):
    if not is_row(words):
        raise NoRow()
    numbers = [int(word) for word in words[1:]]
    if words[0] == "shares" and not 1 <= numbers[0] <= GATES_MANY:
        raise NoRow()
    return numbers


def is_house_row(row):
    # A row with a line feed is none: here rooms are parted otherwise.
    return row.startswith(HOUSE_WORD) and "\n" not in row


class Desk:
    """Keeps how all stood at the beginning and behind each deed that stands."""

    def __init__(self):
        self.stood = [stand_of(((-1,),))]

    def say(self, row):
        if not isinstance(row, str):
            raise NoRow()
        if is_house_row(row):
            self.stood.append(stand_of(read(row[len(HOUSE_WORD):].replace(ROOMS_PARTED, "\n"))))
            return "ok"
        words = row.split(" ")
        numbers = numbers_of(words)
        if words[0] == "back":
            return self.undo()
        if words[0] in QUESTIONS:
            return QUESTIONS[words[0]](self.stood[-1], numbers)
        return self.do(words[0], numbers)

    def do(self, word, numbers):
        now = self.stood[-1]
        self.stood.append(DEEDS[word](now, numbers))
        return answer_step(now, numbers) if word == "step" else "ok"

    def undo(self):
        if len(self.stood) == 1:
            raise NoRow()
        self.stood.pop()
        return "ok"
