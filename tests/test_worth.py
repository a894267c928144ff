"""Promise 17: the worth of a stretch, and the first stretch of the greatest worth."""

import inspect
import unittest

from stretchleast.worth import most_worth, worth_of
from tests.helper import ChecksRows, RefusesNoStretch, chance_row, long_rows, searched, short_rows


def walked_most(row):
    """The greatest worth, found stretch by stretch, by begin, then by end."""
    best = None
    for (begin, end), found in searched(row).items():
        worth = found[0] * (end - begin)
        if best is None or worth > best[0]:
            best = (worth, begin, end)
    return best


class Interface(unittest.TestCase):
    def test_arguments_are_named_as_in_the_document(self):
        self.assertEqual(list(inspect.signature(worth_of).parameters), ["row", "begin", "end"])
        self.assertEqual(list(inspect.signature(most_worth).parameters), ["row"])


class Worths(unittest.TestCase):
    def check(self, row, step=1):
        for (begin, end), found in list(searched(row).items())[::step]:
            told = worth_of(row, begin, end)
            if told != found[0] * (end - begin) or type(told) is not int:
                self.fail(f"{row}, {begin}, {end}: {told}")

    def test_written_out(self):
        row = [5, 2, 8, 2]
        self.assertEqual([worth_of(row, 0, end) for end in (1, 2, 3, 4)], [5, 4, 6, 8])
        self.assertEqual([worth_of(row, begin, 4) for begin in (0, 1, 2, 3)], [8, 6, 4, 2])
        self.assertEqual(worth_of(row, 2, 3), 8)

    def test_below_nought(self):
        row = [3, -2, -7, 0]
        self.assertEqual([worth_of(row, 0, end) for end in (1, 2, 3, 4)], [3, -4, -21, -28])
        self.assertEqual([worth_of(row, 3, 4), worth_of(row, 2, 4), worth_of(row, 1, 2)], [0, -14, -2])

    def test_every_stretch_of_short_rows(self):
        for row in short_rows():
            self.check(row)

    def test_many_stretches_of_rows_of_300(self):
        for name, row in long_rows().items():
            with self.subTest(name):
                self.check(row, 7)

    def test_to_the_limits(self):
        for number in (10 ** 12, -10 ** 12):
            self.assertEqual(worth_of([number] * 300, 0, 300), 300 * number)
        self.check(chance_row(3, 500, -10 ** 15, 10 ** 15), 101)


class MostWorth(ChecksRows, unittest.TestCase):
    def check(self, row):
        told = most_worth(row)
        self.assertEqual(told, walked_most(row), row)
        if told is not None:
            self.assertIs(type(told), tuple)
            self.assertEqual([type(number) for number in told], [int, int, int])

    def test_row_of_none(self):
        self.assertIsNone(most_worth([]))

    def test_row_of_one(self):
        for number in (0, 4, -4, 10 ** 12, -10 ** 12):
            self.assertEqual(most_worth([number]), (number, 0, 1))

    def test_written_out(self):
        self.assertEqual(most_worth([2, 1, 5, 6, 2, 3]), (10, 2, 4))
        self.assertEqual(most_worth([4, 4, 4]), (12, 0, 3))
        self.assertEqual(most_worth([1, 2, 3, 4]), (6, 1, 4))
        self.assertEqual(most_worth([-3, 5, -3]), (5, 1, 2))

    def test_of_several_the_first_by_begin(self):
        self.assertEqual(most_worth([6, 0, 6]), (6, 0, 1))
        self.assertEqual(most_worth([1, 2, 0, 2, 1]), (2, 0, 2))
        self.assertEqual(most_worth([2, 2, 0, 4]), (4, 0, 2))
        # Worths of 8: the third number alone, and all four.
        self.assertEqual(most_worth([5, 2, 8, 2]), (8, 0, 4))

    def test_of_several_with_one_begin_the_first_by_end(self):
        self.assertEqual(most_worth([6, 3]), (6, 0, 1))
        self.assertEqual(most_worth([6, 3, 2]), (6, 0, 1))
        self.assertEqual(most_worth([6, 2, 2]), (6, 0, 1))

    def test_noughts(self):
        self.assertEqual(most_worth([0, 0, 0]), (0, 0, 1))
        self.assertEqual(most_worth([0] * 300), (0, 0, 1))
        self.assertEqual(most_worth([-1, 0, 0]), (0, 1, 2))
        self.assertEqual(most_worth([-1, 0, -1]), (0, 1, 2))
        self.assertEqual(most_worth([0, 1, 0]), (1, 1, 2))

    def test_below_nought(self):
        self.assertEqual(most_worth([-3, -1, -2]), (-1, 1, 2))
        # Two numbers below 0 are worth less than one of them.
        self.assertEqual(most_worth([-5, -5]), (-5, 0, 1))
        self.assertEqual(most_worth([-2, -1, -1]), (-1, 1, 2))
        self.assertEqual(most_worth([-7] * 300), (-7, 0, 1))

    def test_short_rows_on_one_side_of_nought(self):
        for row in short_rows():
            self.check([abs(number) for number in row])
            self.check([-abs(number) for number in row])

    def test_longer_rows_on_one_side_of_nought(self):
        for many in range(0, 301, 23):
            for low, high in ((0, 4), (1, 300), (-9, -1), (-4, 0), (0, 10 ** 12), (1, 10 ** 15)):
                self.check(chance_row(many + high, many, low, high))

    def test_rows_of_300_above_nought(self):
        for name, row in long_rows().items():
            with self.subTest(name):
                self.check([abs(number) for number in row])

    def test_to_the_limits(self):
        self.assertEqual(most_worth([10 ** 12] * 300), (300 * 10 ** 12, 0, 300))
        self.assertEqual(most_worth([-10 ** 12] * 300), (-10 ** 12, 0, 1))


class Refusals(RefusesNoStretch, unittest.TestCase):
    tellers = (worth_of,)
