"""Promises 1, 3, 4 and 5: rows, stretches, and what is told of one stretch."""

import inspect
import unittest

from stretchleast.rows import greatest_of, is_row, least_of, least_place, spread_of
from tests.helper import RefusesNoStretch, long_rows, no_whole_numbers, searched, short_rows

TELLERS = (least_of, greatest_of, spread_of, least_place)


class Interface(unittest.TestCase):
    def test_arguments_are_named_as_in_the_document(self):
        self.assertEqual(list(inspect.signature(is_row).parameters), ["thing"])
        for tell in TELLERS:
            with self.subTest(tell.__name__):
                self.assertEqual(list(inspect.signature(tell).parameters), ["row", "begin", "end"])


class IsRow(unittest.TestCase):
    def test_rows(self):
        rows = {
            "none": [],
            "one": [0],
            "below nought": [-1, 0, 1],
            "like ones": [4, 4, 4],
            "to the limits": [-10 ** 12, 10 ** 12],
            "very great": [10 ** 6000, -10 ** 6000, 10 ** 30],
            "very many": list(range(1000000)),
            "very many and very great": [10 ** 1000] * 100000,
        }
        for name, row in rows.items():
            with self.subTest(name):
                self.assertIs(is_row(row), True)

    def test_other_things_are_none(self):
        others = no_whole_numbers()
        # These two are rows.
        del others["an empty list"], others["a list"]
        others.update({"a whole number": 5, "a row in a tuple": (1, 2), "a row in a list": [[1, 2]]})
        others.update({"a dict of numbers": {1: 2}, "a text of a row": "1 2", "a generator": iter([1, 2])})
        for name, other in others.items():
            with self.subTest(name):
                self.assertIs(is_row(other), False)

    def test_one_wrong_thing_at_any_place(self):
        for name, wrong in no_whole_numbers().items():
            for place in range(6):
                row = [3, -1, 4, 1, 5]
                row.insert(place, wrong)
                with self.subTest(name, place=place):
                    self.assertIs(is_row(row), False)

    def test_truths_alone_are_no_row(self):
        for truths in ([True], [False], [True, False], [0, 1, True], [False, 0, 1]):
            with self.subTest(truths=truths):
                self.assertIs(is_row(truths), False)

    def test_one_wrong_thing_behind_very_many(self):
        for wrong in (True, False, None, "1", [], ()):
            with self.subTest(wrong=wrong):
                self.assertIs(is_row([0] * 200000 + [wrong]), False)


class Stretches(unittest.TestCase):
    def check(self, row):
        for (begin, end), (least, greatest, place, _) in searched(row).items():
            told = tuple(tell(row, begin, end) for tell in TELLERS)
            if told != (least, greatest, greatest - least, place):
                self.fail(f"{row}, {begin}, {end}: {told}")
            if any(type(number) is not int for number in told):
                self.fail(f"{row}, {begin}, {end}: {told} are not whole numbers")

    def test_all_stretches_of_short_rows(self):
        for row in short_rows():
            self.check(row)

    def test_all_stretches_of_rows_of_300(self):
        for name, row in long_rows().items():
            with self.subTest(name):
                self.check(row)

    def test_written_out(self):
        row = [5, 2, 8, 2, 9]
        self.assertEqual([tell(row, 0, 5) for tell in TELLERS], [2, 9, 7, 1])
        self.assertEqual([tell(row, 2, 5) for tell in TELLERS], [2, 9, 7, 3])
        self.assertEqual([tell(row, 2, 3) for tell in TELLERS], [8, 8, 0, 2])

    def test_first_place_of_like_leasts(self):
        self.assertEqual(least_place([1, 1, 1], 0, 3), 0)
        self.assertEqual(least_place([1, 1, 1], 1, 3), 1)
        self.assertEqual(least_place([0, 4, 1, 3, 1], 1, 5), 2)

    def test_numbers_to_the_limits(self):
        row = [10 ** 12, 0, -10 ** 12]
        self.assertEqual([tell(row, 0, 3) for tell in TELLERS], [-10 ** 12, 10 ** 12, 2 * 10 ** 12, 2])


class Refusals(RefusesNoStretch, unittest.TestCase):
    tellers = TELLERS
