"""[0.4]: the classes of refusals and their fields."""

import unittest

from turnarrows.errors import (
    ArrowError, NeverBack, NoArrows, Nobody, NoHouse, NoRoom, NoRow, NoText, NotOpen, NotShut, NoTour, NoWalkers,
    TooGreat,
)

PLAIN = (NoArrows, NoRoom, NoWalkers, NotShut, NeverBack, NoTour, NoRow)
WITH_AT = (NoHouse, Nobody, NoText)


class ErrorsTest(unittest.TestCase):
    def test_arrow_error_stands_under_value_error(self):
        self.assertEqual(ArrowError.__bases__, (ValueError,))

    def test_each_stands_straight_under_arrow_error(self):
        for kind in PLAIN + WITH_AT + (NotOpen, TooGreat):
            with self.subTest(kind=kind):
                self.assertEqual(kind.__bases__, (ArrowError,))

    def test_they_are_unlike_classes_of_their_own_names(self):
        names = [kind.__name__ for kind in (ArrowError, NotOpen, TooGreat) + PLAIN + WITH_AT]
        self.assertEqual(sorted(names), sorted([
            "ArrowError", "NoArrows", "NoRoom", "NoWalkers", "NotShut", "NeverBack", "NoTour", "NoRow",
            "NoHouse", "NotOpen", "Nobody", "NoText", "TooGreat",
        ]))

    def test_plain_ones_are_made_of_nothing(self):
        for kind in PLAIN:
            with self.subTest(kind=kind):
                self.assertIsInstance(kind(), ArrowError)

    def test_at(self):
        for kind in WITH_AT:
            for at in (0, 7, 11):
                with self.subTest(kind=kind, at=at):
                    self.assertEqual(kind(at).at, at)

    def test_room(self):
        self.assertEqual([NotOpen(room).room for room in (0, 4, 9)], [0, 4, 9])

    def test_many_and_most_in_their_order(self):
        error = TooGreat(301, 300)
        self.assertEqual((error.many, error.most), (301, 300))

    def test_each_object_has_fields_of_its_own(self):
        one = NoHouse(3)
        other = NoHouse(5)
        self.assertEqual((one.at, other.at), (3, 5))

    def test_fields_are_there_where_it_is_taken(self):
        with self.assertRaises(ArrowError) as taken:
            raise TooGreat(1000, 300)
        self.assertEqual((taken.exception.many, taken.exception.most), (1000, 300))


if __name__ == "__main__":
    unittest.main()
