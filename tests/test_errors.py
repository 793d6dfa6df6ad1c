import itertools
import unittest

from firstpowers import errors
from firstpowers.errors import (
    Apart, NoLengths, NoNumber, NoOrder, NoPlace, NoRow, NoSet, NoTable, NoTables, NoText, NoWalk, NoWay, PowerError,
    TooGreat,
)

PLAIN = (NoTable, NoPlace, NoNumber, NoOrder, NoSet, NoWalk, NoLengths, NoWay, Apart, NoRow)
WITH_FIELDS = (NoTables, NoText, TooGreat)
NAMES = (
    "NoTable", "NoPlace", "NoNumber", "NoOrder", "NoSet", "NoWalk", "NoLengths", "NoWay", "Apart", "NoRow",
    "NoTables", "NoText", "TooGreat",
)


class Errors(unittest.TestCase):
    def test_any_refusal_stands_straight_under_value_error(self):
        self.assertEqual(PowerError.__bases__, (ValueError,))

    def test_each_class_stands_straight_under_power_error(self):
        for kind in PLAIN + WITH_FIELDS:
            with self.subTest(kind=kind):
                self.assertEqual(kind.__bases__, (PowerError,))

    def test_each_class_bears_its_name_and_is_of_its_own(self):
        for kind, name in zip(PLAIN + WITH_FIELDS, NAMES, strict=True):
            self.assertEqual(kind.__name__, name)
            self.assertIs(getattr(errors, name), kind)
        self.assertEqual(len(set(PLAIN + WITH_FIELDS)), 13)

    def test_no_class_stands_under_another_one(self):
        for one, other in itertools.permutations(PLAIN + WITH_FIELDS, 2):
            with self.subTest(one=one, other=other):
                self.assertFalse(issubclass(one, other))

    def test_plain_ones_are_raised_and_taken(self):
        for kind in PLAIN:
            for wider in (kind, PowerError, ValueError):
                with self.subTest(kind=kind, wider=wider), self.assertRaises(wider):
                    raise kind("words")

    def test_fields_by_place(self):
        for at in (-1, 0, 2):
            self.assertEqual(NoTables(at).at, at)
            self.assertEqual(NoText(at).at, at)
        refusal = TooGreat(6, 5)
        self.assertEqual((refusal.many, refusal.most), (6, 5))

    def test_fields_by_name(self):
        self.assertEqual(NoTables(at=1).at, 1)
        self.assertEqual(NoText(at=5).at, 5)
        refusal = TooGreat(most=5, many=6)
        self.assertEqual((refusal.many, refusal.most), (6, 5))

    def test_fields_are_there_when_taken_by_any_refusal(self):
        for refusal in (NoTables(2), NoText(2)):
            with self.assertRaises(PowerError) as taken:
                raise refusal
            self.assertEqual(taken.exception.at, 2)

    def test_fields_are_each_object_s_own(self):
        one, other = NoText(1), NoText(2)
        self.assertEqual((one.at, other.at), (1, 2))


if __name__ == "__main__":
    unittest.main()
