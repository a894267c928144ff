"""Promises 11 and 12: stretches counted by their leasts."""

import inspect
import unittest

from stretchleast.counted import by_leasts, many_from, many_to, many_with
from tests.helper import ChecksRows, chance_row, long_rows, searched, short_rows

COUNTERS = (many_with, many_from, many_to)


def leasts_of(row):
    return [found[0] for found in searched(row).values()]


def walked_counts(leasts, number):
    return [sum(least == number for least in leasts), sum(least >= number for least in leasts),
            sum(least <= number for least in leasts)]


def counted(row, number):
    return [count(row, number) for count in COUNTERS]


class Interface(unittest.TestCase):
    def test_arguments_are_named_as_in_the_document(self):
        self.assertEqual(list(inspect.signature(by_leasts).parameters), ["row"])
        for count in COUNTERS:
            self.assertEqual(list(inspect.signature(count).parameters), ["row", "number"])


class ByLeasts(ChecksRows, unittest.TestCase):
    def check(self, row):
        counts = {}
        for least in leasts_of(row):
            counts[least] = counts.get(least, 0) + 1
        told = by_leasts(row)
        self.assertEqual(told, [(least, counts[least]) for least in sorted(counts)], row)
        self.assertIs(type(told), list)
        for pair in told:
            self.assertIs(type(pair), tuple)
            self.assertEqual([type(number) for number in pair], [int, int])

    def test_row_of_none(self):
        self.assertEqual(by_leasts([]), [])

    def test_row_of_one(self):
        for number in (0, -3, 10 ** 12, -10 ** 12):
            self.assertEqual(by_leasts([number]), [(number, 1)])

    def test_written_out(self):
        self.assertEqual(by_leasts([3, 1, 2]), [(1, 4), (2, 1), (3, 1)])
        self.assertEqual(by_leasts([5, 2, 8, 2]), [(2, 8), (5, 1), (8, 1)])
        self.assertEqual(by_leasts([4, 4, 4]), [(4, 6)])
        self.assertEqual(by_leasts([-1, -2]), [(-2, 2), (-1, 1)])

    def test_the_told_list_is_changed_and_asked_again(self):
        for row in ([], [4], [3, 1, 2], [7, 7, 7], chance_row(8, 40, -3, 3)):
            told = by_leasts(row)
            before = list(told)
            told.append((0, 0))
            told.reverse()
            self.assertEqual(by_leasts(row), before)
            told.clear()
            self.assertEqual(by_leasts(row), before)
            self.assertIsNot(by_leasts(row), by_leasts(row))
            self.assertEqual(many_from(row, -10 ** 30), sum(many for _, many in before))


class Counts(unittest.TestCase):
    def check(self, row, numbers):
        leasts = leasts_of(row)
        for number in numbers:
            told = counted(row, number)
            self.assertEqual(told, walked_counts(leasts, number), (row, number))
            self.assertEqual([type(many) for many in told], [int, int, int])

    def test_written_out(self):
        row = [5, 2, 8, 2]
        self.assertEqual(counted(row, 2), [8, 10, 8])
        self.assertEqual(counted(row, 5), [1, 2, 9])
        self.assertEqual(counted(row, 8), [1, 1, 10])
        # Numbers that are no least of the row.
        self.assertEqual(counted(row, 1), [0, 10, 0])
        self.assertEqual(counted(row, 4), [0, 2, 8])
        self.assertEqual(counted(row, 9), [0, 0, 10])

    def test_row_of_none(self):
        for number in (0, 1, -1, 10 ** 30, -10 ** 30):
            self.assertEqual(counted([], number), [0, 0, 0])

    def test_row_of_one(self):
        self.assertEqual([counted([3], number) for number in (2, 3, 4)], [[0, 1, 0], [1, 1, 1], [0, 0, 1]])

    def test_short_rows_by_a_walk(self):
        for row in short_rows():
            numbers = {number + step for number in row for step in (-1, 0, 1)}
            self.check(row, sorted(numbers | {0, 10 ** 12, -10 ** 12}))

    def test_rows_of_300_by_a_walk(self):
        for name, row in long_rows().items():
            with self.subTest(name):
                near = [row[at] + step for at in (0, 77, 150, 299) for step in (-1, 0, 1)]
                self.check(row, [*near, min(row), max(row), min(row) - 1, max(row) + 1])

    def test_numbers_far_away(self):
        for row in [[3, 1, 2], *long_rows().values()]:
            every = len(row) * (len(row) + 1) // 2
            for far in (10 ** 30, 10 ** 30 - 1, 10 ** 13, 10 ** 40):
                self.assertEqual(counted(row, far), [0, 0, every])
                self.assertEqual(counted(row, -far), [0, every, 0])
