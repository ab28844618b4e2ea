"""[10.1]: houses written as texts, and read back."""

import copy
import unittest

from tests.things import great_houses, houses, ring_house, things_of_every_kind
from turnarrows.errors import NoText
from turnarrows.houses import is_house
from turnarrows.texts import read, shown


def refused_at(test, text):
    with test.assertRaises(NoText) as taken:
        read(text)
    test.assertIs(type(taken.exception), NoText)
    return taken.exception.at


class ShownTest(unittest.TestCase):
    def test_by_hand(self):
        self.assertEqual(shown(((-1,),)), "-1")
        self.assertEqual(shown(((0, -1, -2, -3, 0, 0),)), "0 -1 -2 -3 0 0")
        self.assertEqual(shown(((1, -1), (0,))), "1 -1\n0")
        self.assertEqual(shown(ring_house(10)), "1\n2\n3\n4\n5\n6\n7\n8\n9\n0")

    def test_read_back(self):
        for house in houses():
            text = shown(house)
            self.assertIs(type(text), str)
            self.assertEqual(read(text), house)
            self.assertIs(is_house(read(text)), True)


class ReadTest(unittest.TestCase):
    def test_by_hand(self):
        self.assertEqual(read("-1"), ((-1,),))
        self.assertEqual(read("0 0 0 0 0 0"), ((0,) * 6,))
        self.assertEqual(read("2 1\n0 -3\n-1 -2 0 1 2 2"), ((2, 1), (0, -3), (-1, -2, 0, 1, 2, 2)))
        self.assertEqual(read("\n".join(["9"] * 10)), ((9,),) * 10)

    def test_no_text(self):
        things = [thing for thing in things_of_every_kind() if not isinstance(thing, str)]
        kept = copy.deepcopy(things)
        for thing in things + [((-1,),), ["-1"], ("-1",), {"-1": 0}]:
            self.assertEqual(refused_at(self, thing), 0)
        self.assertEqual(things, kept)

    def test_no_signs_and_rows_without_words(self):
        self.assertEqual(refused_at(self, ""), 1)
        self.assertEqual(refused_at(self, "\n"), 1)
        self.assertEqual(refused_at(self, "\n0"), 1)
        self.assertEqual(refused_at(self, "0\n"), 2)
        self.assertEqual(refused_at(self, "0\n\n0"), 2)
        self.assertEqual(refused_at(self, "0\n0\n"), 3)

    def test_seven_words(self):
        self.assertEqual(refused_at(self, "0 0 0 0 0 0 0"), 1)
        self.assertEqual(refused_at(self, "0\n0\n-1 -1 -1 -1 -1 -1 -1"), 3)

    def test_blanks(self):
        for row in ("0  0", " 0", "0 ", "  0", "0  ", " ", "  ", "0 0 ", " 0 0", "0  0 0"):
            self.assertEqual(refused_at(self, row), 1)
            self.assertEqual(refused_at(self, "0\n1\n" + row + "\n0"), 3)

    def test_words_that_are_no_doors(self):
        for word in (
            "-4", "-0", "+0", "+1", "00", "01", "-01", "--1", "-", "+", "10", "11", "99", "-10", "-11", "a", "0.", "0,", ";",
            "1.0", "1e0", "0x1", "None", "True", "(0)", "0;", "\t", "0\t", "0\r", "1_0", "-1-1", "~", "'0'", "- 1", "2-",
        ):
            with self.subTest(word=word):
                self.assertEqual(refused_at(self, word), 1)
                self.assertEqual(refused_at(self, "0\n0 " + word), 2)
                self.assertEqual(refused_at(self, "0\n" + word + " 0\n0"), 2)

    def test_rooms_that_there_are_not(self):
        for many in range(1, 10):
            right = [str(many - 1)] * many
            self.assertEqual(read("\n".join(right)), ((many - 1,),) * many)
            for at in range(many):
                wrong = list(right)
                wrong[at] = "0 " + str(many)
                self.assertEqual(refused_at(self, "\n".join(wrong)), at + 1)

    def test_an_eleventh_row(self):
        self.assertEqual(refused_at(self, "\n".join(["0"] * 11)), 11)
        self.assertEqual(refused_at(self, "\n".join(["9"] * 30)), 11)
        self.assertEqual(refused_at(self, "\n".join(["0"] * 10 + [""])), 11)
        self.assertEqual(refused_at(self, "\n".join(["0"] * 10 + ["x"])), 11)
        self.assertEqual(refused_at(self, "\n".join(["0"] * 9 + ["x", "0"])), 10)
        self.assertEqual(refused_at(self, "\n".join(["10"] + ["0"] * 10)), 1)

    def test_the_first_wrong_row(self):
        self.assertEqual(refused_at(self, "0\n4\nx\n\n"), 3)
        self.assertEqual(refused_at(self, "0\n5\nx\n\n"), 2)
        self.assertEqual(refused_at(self, "x"), 1)
        self.assertEqual(refused_at(self, "house"), 1)
        self.assertEqual(refused_at(self, "0 " * 999), 1)

    def test_texts_of_great_houses_with_one_word_otherwise(self):
        for house in great_houses():
            rows = shown(house).split("\n")
            for at in range(len(rows)):
                bent = rows[:at] + [rows[at] + " -4"] + rows[at + 1:]
                self.assertEqual(refused_at(self, "\n".join(bent)), at + 1)


if __name__ == "__main__":
    unittest.main()
