"""[10.2] to [10.4]: the desk, its deeds, its questions, and rows that are none."""

import copy
import unittest
from random import Random

from tests.things import open_houses, refusal, shut_houses, things_of_every_kind, touring_houses, trapped_houses
from turnarrows.again import again_many, comes_again
from turnarrows.back import led_back
from turnarrows.circles import tours_many
from turnarrows.desk import Desk
from turnarrows.errors import (
    ArrowError, NeverBack, NoArrows, Nobody, NoRoom, NoRow, NoText, NotOpen, NotShut, NoTour, NoWalkers,
)
from turnarrows.likes import how_many_kinds, least_like
from turnarrows.rests import rest
from turnarrows.rounds import round_of, why_not
from turnarrows.shares import shares
from turnarrows.texts import shown
from turnarrows.trees import ring_of

PLAIN_QUESTIONS = ("shown", "arrows", "walkers", "gates", "rest", "again", "many", "ring", "kinds", "least", "tours")
SIXTY = "1" + "0" * 59


def told_by(desk, row):
    """The answer, or the class and the fields of the refusal."""
    try:
        return desk.say(row)
    except ArrowError as error:
        return (type(error), vars(error))


def desk_of(*rows):
    desk = Desk()
    for row in rows:
        desk.say(row)
    return desk


def house_row(house):
    return "house " + shown(house).replace("\n", " ; ")


def all_answers(desk):
    rows = [*PLAIN_QUESTIONS, "shares 1", "shares 2", "shares 3"]
    rows += [f"{word} {room}" for word in ("round", "why", "led") for room in (0, 1, 2, 9)]
    return [told_by(desk, row) for row in rows]


def joined(numbers):
    return " ".join(str(number) for number in numbers)


class BeginningTest(unittest.TestCase):
    def test_at_first(self):
        desk = Desk()
        self.assertEqual([desk.say(row) for row in PLAIN_QUESTIONS[:-1]], [
            "-1", "0", "0", "0 0 0", "0", "yes", "1", "none", "1", "0",
        ])
        self.assertEqual(told_by(desk, "tours"), (NoTour, {}))
        self.assertEqual(desk.say("shares 1"), "1/1")
        self.assertEqual(desk.say("shares 2"), "0/1")
        self.assertEqual(desk.say("led 0"), "0")
        self.assertEqual(told_by(desk, "back"), (NoRow, {}))
        self.assertEqual(told_by(desk, "step 0"), (Nobody, {"at": 0}))
        self.assertEqual(desk.say("out"), "ok")

    def test_two_desks_know_nothing_of_each_other(self):
        one, other = Desk(), Desk()
        one.say("house 1 -1 ; 0")
        one.say("put 1 3")
        self.assertEqual(other.say("shown"), "-1")
        other.say("put 0 2")
        self.assertEqual((one.say("walkers"), other.say("walkers")), ("0 3", "2"))
        other.say("back")
        self.assertEqual(told_by(other, "back"), (NoRow, {}))
        self.assertEqual((one.say("back"), one.say("walkers")), ("ok", "0 0"))


class HouseTest(unittest.TestCase):
    def test_told_and_shown(self):
        desk = Desk()
        for house in open_houses() + trapped_houses():
            self.assertEqual(desk.say(house_row(house)), "ok")
            self.assertEqual("house " + desk.say("shown"), house_row(house))
            self.assertEqual(desk.say("arrows"), joined([0] * len(house)))
            self.assertEqual(desk.say("walkers"), joined([0] * len(house)))
            self.assertEqual(desk.say("gates"), "0 0 0")

    def test_arrows_walkers_and_gates_are_all_nought_then(self):
        desk = desk_of("house -1 -2 ; 0 -1", "arrow 1 1", "put 0 5", "put 1 2", "step 0", "step 0", "step 0")
        self.assertEqual([desk.say(row) for row in ("arrows", "walkers", "gates")], ["1 1", "2 2", "2 1 0"])
        desk.say("house 1 ; -3 -3")
        self.assertEqual([desk.say(row) for row in ("arrows", "walkers", "gates")], ["0 0", "0 0", "0 0 0"])
        desk.say("back")
        self.assertEqual([desk.say(row) for row in ("shown", "arrows", "walkers", "gates")],
                         ["-1 -2 ; 0 -1", "1 1", "2 2", "2 1 0"])

    def test_refused_as_read_refuses(self):
        for row, at in (
            ("house ", 1), ("house  ", 1), ("house x", 1), ("house 1", 1), ("house 0  0", 1), ("house 0 ", 1),
            ("house  0", 1), ("house 0 0 0 0 0 0 0", 1), ("house 0 ; 2", 2), ("house 0 ; ", 2), ("house 0 ;", 1),
            ("house ; 0", 1), ("house 0;0", 1), ("house 0; 0", 1), ("house 0 ;0", 1), ("house 0 ; ; 0", 2),
            ("house 0 ;  ; 0", 2), ("house 0  ; 0", 1), ("house 0 ;  0", 2), ("house -4", 1), ("house 00", 1),
            ("house 0 ; 0 ; +1", 3), ("house " + " ; ".join(["0"] * 11), 11), ("house " + " ; ".join(["9"] * 20), 11),
            ("house house 0", 1), ("house arrow 0 0", 1), ("house ;", 1), ("house  ; ", 1), ("house 0 ; 0 ; 0 ; ", 4),
        ):
            with self.subTest(row=row):
                desk = desk_of("house 1 -1 ; 0", "put 0 3", "arrow 0 1")
                before = all_answers(desk)
                self.assertEqual(told_by(desk, row), (NoText, {"at": at}))
                self.assertEqual(all_answers(desk), before)
                self.assertEqual([desk.say("back"), desk.say("arrows")], ["ok", "0 0"])

    def test_rows_with_line_feeds_or_without_a_blank_are_none(self):
        for row in ("house", "house\n", "house\n0", "house 0\n0", "house 0\n", "house \n", "house 0 ; 0\n0", "House 0",
                    "houses 0", "house0", " house 0", "house\t0", "\nhouse 0"):
            with self.subTest(row=row):
                desk = desk_of("house 1 -1 ; 0")
                self.assertEqual(told_by(desk, row), (NoRow, {}))
                self.assertEqual(desk.say("shown"), "1 -1 ; 0")


class ArrowTest(unittest.TestCase):
    def test_each_door(self):
        desk = desk_of("house 0 1 -1 ; 0 0 0 0 0 -2")
        for room, doors in ((0, 3), (1, 6)):
            for door in range(doors):
                self.assertEqual(desk.say(f"arrow {room} {door}"), "ok")
                self.assertEqual(desk.say("arrows").split(" ")[room], str(door))
        self.assertEqual(desk.say("arrows"), "2 5")

    def test_refused(self):
        desk = desk_of("house 0 1 -1 ; 0 0 0 0 0 -2", "arrow 0 1")
        for row, right in (
            ("arrow 2 0", NoRoom), ("arrow 2 99", NoRoom), ("arrow 0 3", NoArrows), ("arrow 1 6", NoArrows),
            (f"arrow {SIXTY} 0", NoRoom), (f"arrow 0 {SIXTY}", NoArrows), (f"arrow {SIXTY}0 0", NoRow),
            (f"arrow 0 {SIXTY}0", NoRow),
        ):
            self.assertEqual(told_by(desk, row), (right, {}))
        self.assertEqual(desk.say("arrows"), "1 0")
        self.assertEqual([desk.say("back"), desk.say("arrows")], ["ok", "0 0"])


class PutTest(unittest.TestCase):
    def test_more_and_more(self):
        desk = desk_of("house 1 -1 ; 0 -2", "put 0 3", "put 1 4", "put 0 5", "put 1 0")
        self.assertEqual(desk.say("walkers"), "8 4")
        self.assertEqual([desk.say("back"), desk.say("walkers")], ["ok", "8 4"])
        self.assertEqual([desk.say("back"), desk.say("walkers")], ["ok", "3 4"])

    def test_a_hundred_in_all_rooms_together(self):
        desk = desk_of("house 1 -1 ; 0 -2", "put 0 60")
        self.assertEqual(told_by(desk, "put 1 41"), (NoWalkers, {}))
        self.assertEqual(desk.say("walkers"), "60 0")
        self.assertEqual(desk.say("put 1 40"), "ok")
        for row in ("put 0 1", "put 1 1", f"put 0 {SIXTY}"):
            self.assertEqual(told_by(desk, row), (NoWalkers, {}))
        self.assertEqual([desk.say("put 0 0"), desk.say("walkers")], ["ok", "60 40"])
        self.assertEqual(told_by(desk_of(), "put 0 101"), (NoWalkers, {}))
        self.assertEqual(desk_of("put 0 100").say("walkers"), "100")
        # Whoever went out makes room for others.
        self.assertEqual([desk.say("arrow 0 1"), desk.say("step 0"), desk.say("put 1 1")], ["ok", "-1", "ok"])
        self.assertEqual(told_by(desk, "put 1 1"), (NoWalkers, {}))

    def test_no_room_ahead_of_no_walkers(self):
        desk = desk_of("house 1 -1 ; 0 -2")
        for row in ("put 2 1", "put 2 101", f"put {SIXTY} {SIXTY}"):
            self.assertEqual(told_by(desk, row), (NoRoom, {}))
        self.assertEqual(told_by(desk, f"put {SIXTY}1 1"), (NoRow, {}))


class StepTest(unittest.TestCase):
    def test_the_place_is_answered(self):
        desk = desk_of("house 1 -1 ; 0 2 -2 ; -3", "put 0 3")
        told = [desk.say(row) for row in ("step 0", "step 0", "step 0", "step 1", "step 1", "step 2", "step 0")]
        self.assertEqual(told, ["1", "-1", "1", "0", "2", "-3", "-1"])
        self.assertEqual([desk.say(row) for row in ("arrows", "walkers", "gates")], ["0 2 0", "0 0 0", "2 0 1"])

    def test_refused(self):
        desk = desk_of("house 1 -1 ; 0 2 -2 ; -3", "put 0 1")
        for row, right in (
            ("step 1", (Nobody, {"at": 0})), ("step 2", (Nobody, {"at": 0})), ("step 3", (NoRoom, {})),
            (f"step {SIXTY}", (NoRoom, {})), (f"step {SIXTY}0", (NoRow, {})),
        ):
            self.assertEqual(told_by(desk, row), right)
        self.assertEqual([desk.say("arrows"), desk.say("walkers")], ["0 0 0", "1 0 0"])

    def test_in_a_shut_house(self):
        desk = desk_of("house 1 ; 0", "put 0 100")
        for _ in range(100):
            self.assertEqual(desk.say("step 0"), "1")
        self.assertEqual(desk.say("walkers"), "0 100")


class OutTest(unittest.TestCase):
    def test_all_are_led_out(self):
        desk = desk_of("house 1 -1 ; 0 2 -2 ; 0 0 1", "put 0 7", "put 2 5", "arrow 1 2")
        gates, arrows, leavings = rest(((1, -1), (0, 2, -2), (0, 0, 1)), (0, 2, 0), (7, 0, 5))
        self.assertEqual(desk.say("rest"), joined(leavings))
        self.assertEqual(desk.say("out"), "ok")
        self.assertEqual([desk.say(row) for row in ("arrows", "walkers", "gates")],
                         [joined(arrows), "0 0 0", joined(gates)])
        desk.say("put 1 4")
        desk.say("out")
        more = rest(((1, -1), (0, 2, -2), (0, 0, 1)), arrows, (0, 4, 0))
        self.assertEqual(desk.say("gates"), joined(one + other for one, other in zip(gates, more[0])))
        desk.say("back")
        desk.say("back")
        desk.say("back")
        self.assertEqual([desk.say(row) for row in ("arrows", "walkers", "gates")], ["0 2 0", "7 0 5", "0 0 0"])

    def test_not_open(self):
        for rows in ([], ["put 0 1"], ["put 1 3"]):
            desk = desk_of("house -1 1 ; 1 ; 2", *rows)
            self.assertEqual(told_by(desk, "out"), (NotOpen, {"room": 1}))
            self.assertEqual(told_by(desk, "rest"), (NotOpen, {"room": 1}))
            self.assertEqual(desk.say("gates"), "0 0 0")


class BackTest(unittest.TestCase):
    def test_behind_each_deed_as_often_as_deeds_stand_and_once_more(self):
        deeds = ["put 0 2", "house 1 -1 ; 0 -2", "arrow 1 1", "put 0 0", "put 0 9", "step 0", "arrow 0 0", "put 1 3",
                 "out", "out", "house 1 ; 0", "put 1 1", "step 1"]
        desk = Desk()
        seen = []
        for deed in deeds:
            seen.append(all_answers(desk))
            desk.say(deed)
        for right in reversed(seen):
            self.assertEqual(desk.say("back"), "ok")
            self.assertEqual(all_answers(desk), right)
        self.assertEqual(told_by(desk, "back"), (NoRow, {}))
        self.assertEqual(all_answers(desk), seen[0])
        self.assertEqual(desk.say("put 0 1"), "ok")
        self.assertEqual(desk.say("walkers"), "1")

    def test_back_is_not_undone_itself(self):
        desk = desk_of("put 0 1", "put 0 2", "back", "put 0 4", "back")
        self.assertEqual(desk.say("walkers"), "1")
        self.assertEqual([desk.say("back"), desk.say("walkers")], ["ok", "0"])
        self.assertEqual(told_by(desk, "back"), (NoRow, {}))

    def test_refused_rows_and_questions_are_no_deeds(self):
        desk = desk_of("put 0 1")
        for row in ("put 0 100", "step 7", "arrow 0 1", "house x", "nothing", "walkers", "rest", "many", "round 0"):
            told_by(desk, row)
        self.assertEqual([desk.say("back"), desk.say("walkers")], ["ok", "0"])


class QuestionsTest(unittest.TestCase):
    def test_by_hand(self):
        desk = desk_of("house 1 -1 ; 0 -2", "put 0 1")
        self.assertEqual([desk.say(row) for row in ("rest", "again", "many", "ring", "kinds", "least")],
                         ["2 1", "yes", "3", "none", "3", "0 2"])
        self.assertEqual([desk.say(f"shares {number}") for number in (1, 2, 3)], ["2/3 1/3", "1/3 2/3", "0/1 0/1"])
        desk.say("arrow 0 1")
        desk.say("arrow 1 1")
        self.assertEqual([desk.say(row) for row in ("again", "ring")], ["no", "0 1"])
        self.assertEqual(told_by(desk, "led 0"), (NeverBack, {}))
        shut = desk_of("house 1 ; 0 1")
        self.assertEqual([shut.say(row) for row in ("round 0", "round 1", "why 0", "why 1", "ring")],
                         ["1 3", "0 3", "ring 1", "none", "1"])
        self.assertEqual(desk_of("house 1 ; 1").say("why 0"), "gone 1")
        self.assertEqual(desk_of("house 1 2 ; 2 0 ; 0 1").say("tours"), "3")
        self.assertEqual(desk_of("house 0 1 2 ; 0 2 ; 0 1").say("why 0"), "ring 1 2")

    def check(self, house, draw):
        desk = desk_of(house_row(house))
        arrows = tuple(draw.randrange(len(doors)) for doors in house)
        walkers = tuple(draw.randint(0, 10) for _ in house)
        for room, (arrow, many) in enumerate(zip(arrows, walkers)):
            desk.say(f"arrow {room} {arrow}")
            desk.say(f"put {room} {many}")
        self.assertEqual((desk.say("arrows"), desk.say("walkers")), (joined(arrows), joined(walkers)))
        before = all_answers(desk)

        def same(row, write, asked, *handed):
            refused = refusal(asked, *handed)
            self.assertEqual(told_by(desk, row), refused if refused else write(asked(*handed)), (house, row))

        same("rest", lambda told: joined(told[2]), rest, house, arrows, walkers)
        same("again", lambda told: "yes" if told else "no", comes_again, house, arrows)
        same("many", str, again_many, house)
        same("ring", lambda told: "none" if told is None else joined(told), ring_of, house, arrows)
        same("kinds", str, how_many_kinds, house)
        same("least", joined, least_like, house, walkers)
        same("tours", str, tours_many, house)
        for number in (1, 2, 3):
            same(f"shares {number}", lambda told: " ".join("%d/%d" % part for part in told), shares, house, -number)
        for room in range(len(house) + 1):
            same(f"round {room}", joined, round_of, house, arrows, room)
            same(f"led {room}", lambda told: joined(told[0]), led_back, house, arrows, room)
            same(f"why {room}", lambda told: "none" if told is None else f"gone {told[1]}" if told[0] == "gone"
                 else "ring " + joined(told[1]), why_not, house, arrows, room)
        self.assertEqual(all_answers(desk), before)

    def test_as_the_stages_tell_and_refuse(self):
        draw = Random(51)
        for house in open_houses()[::3] + trapped_houses() + shut_houses()[::20] + touring_houses():
            self.check(house, draw)

    def test_refused_as_the_stages_refuse(self):
        desk = desk_of("house -1 1 ; 1 ; 2", "put 0 1")
        before = all_answers(desk)
        for row in ("rest", "again", "many", "shares 1", "shares 3", "kinds", "least", "led 0", "led 2"):
            self.assertEqual(told_by(desk, row), (NotOpen, {"room": 1}))
        for row in ("round 0", "why 2"):
            self.assertEqual(told_by(desk, row), (NotShut, {}))
        for row in ("round 3", "why 3", "led 3", f"round {SIXTY}", f"why {SIXTY}", f"led {SIXTY}"):
            self.assertEqual(told_by(desk, row), (NoRoom, {}))
        self.assertEqual(told_by(desk, "tours"), (NoTour, {}))
        self.assertEqual(all_answers(desk), before)

    def test_a_great_answer(self):
        desk = desk_of("house " + " ; ".join(["-1 -1 -1 -1 -1 -1"] * 10))
        self.assertEqual(desk.say("many"), str(6 ** 10))
        self.assertEqual(desk.say("kinds"), str(6 ** 10))
        rows = [" ".join(str((room + door) % 10) for door in range(1, 7)) for room in range(10)]
        self.assertEqual(desk_of("house " + " ; ".join(rows)).say("tours"), "1739421603720069120000000000")


class NoRowTest(unittest.TestCase):
    def test_what_is_no_text(self):
        things = [thing for thing in things_of_every_kind() if not isinstance(thing, str)]
        kept = copy.deepcopy(things)
        desk = desk_of("put 0 2")
        for thing in things + [["shown"], ("shown",), {"shown": 1}, b"shown"]:
            self.assertEqual(told_by(desk, thing), (NoRow, {}))
        self.assertEqual(things, kept)
        self.assertEqual(desk.say("walkers"), "2")

    def test_other_words_and_other_numbers_of_words(self):
        plain = (*PLAIN_QUESTIONS, "out", "back")
        rows = ["", " ", "  ", "\n", "x", "Shown", "SHOWN", "shown.", "ok", "none", "0", "1 2", "step0", "tour", "share 1"]
        rows += [row + more for row in plain for more in (" ", "\n", " 0", "  ", "s0", "\t")]
        rows += [" " + row for row in plain] + ["\n" + row for row in plain]
        for word in ("arrow", "put"):
            rows += [word, f"{word} ", f"{word} 0", f"{word} 0 ", f"{word} 0 0 0", f"{word}  0 0", f"{word} 0  0"]
            rows += [f"{word} 0 0 ", f" {word} 0 0", f"{word} 0 0\n", f"{word}\n0 0", f"{word} 0\n0", f"{word} 0,0"]
        for word in ("step", "shares", "round", "why", "led"):
            rows += [word, f"{word} ", f"{word}  1", f"{word} 1 ", f"{word} 1 1", f" {word} 1", f"{word} 1\n", f"{word}\n1"]
        desk = desk_of("house 1 -1 ; 0 -2", "put 0 2", "put 1 2")
        before = all_answers(desk)
        for row in rows:
            with self.subTest(row=row):
                self.assertEqual(told_by(desk, row), (NoRow, {}))
        self.assertEqual(all_answers(desk), before)

    def test_numbers_that_are_not_so_written(self):
        desk = desk_of("house 1 -1 ; 0 -2", "put 0 2", "put 1 2")
        before = all_answers(desk)
        for number in (
            "00", "01", "-1", "-0", "+0", "+1", "0x1", "1.", "1.0", "1e1", "a", "", "1_0", "0" * 60, "1" * 61, "9" * 61,
            "0" + "1" * 59, " ", "1\n", "\n1", "None", "True", "--1", "1-", "(1)", "1,", "0" * 61, "9" * 200,
        ):
            rows = [f"{word} {number}" for word in ("step", "shares", "round", "why", "led")]
            rows += [f"{word} {number} 0" for word in ("arrow", "put")] + [f"{word} 0 {number}" for word in ("arrow", "put")]
            rows += [f"{word} 99 {number}" for word in ("arrow", "put")]
            for row in rows:
                with self.subTest(row=row):
                    self.assertEqual(told_by(desk, row), (NoRow, {}))
        self.assertEqual(all_answers(desk), before)

    def test_numbers_of_sixty_figures(self):
        desk = desk_of("house 1 -1 ; 0 -2")
        for number in ("9" * 60, SIXTY, "1" * 59):
            self.assertEqual(told_by(desk, f"step {number}"), (NoRoom, {}))
            self.assertEqual(told_by(desk, f"put 0 {number}"), (NoWalkers, {}))
            self.assertEqual(told_by(desk, f"arrow 1 {number}"), (NoArrows, {}))
            self.assertEqual(told_by(desk, f"shares {number}"), (NoRow, {}))

    def test_shares_of_one_two_and_three_alone(self):
        for house in ("-1 0", "0", "-1 1 ; 1"):
            desk = desk_of(f"house {house}")
            for number in ("0", "4", "5", "10", "11", "01"):
                self.assertEqual(told_by(desk, f"shares {number}"), (NoRow, {}))


class StandsTest(unittest.TestCase):
    def test_answers_hang_on_the_deeds_that_stand_alone(self):
        draw = Random(52)
        houses = [house_row(house) for house in open_houses()[::10] + trapped_houses()[::10] + touring_houses()[::10]]
        for _ in range(25):
            desk, standing = Desk(), []
            for _ in range(40):
                row = draw.choice((
                    draw.choice(houses), f"arrow {draw.randint(0, 3)} {draw.randint(0, 3)}", "back", "out", "house x",
                    f"put {draw.randint(0, 3)} {draw.randint(0, 40)}", f"step {draw.randint(0, 3)}", "step 0", "put 0 3",
                    "rest", "nothing", "round 0", "put 0 101", "arrow 0 0", "arrow 0 1",
                ))
                told = told_by(desk, row)
                if row == "back":
                    self.assertEqual(told, "ok" if standing else (NoRow, {}))
                    standing = standing[:-1]
                elif isinstance(told, str) and row.split(" ")[0] in ("house", "arrow", "put", "step", "out"):
                    standing.append(row)
            self.assertEqual(all_answers(desk_of(*standing)), all_answers(desk))


if __name__ == "__main__":
    unittest.main()
