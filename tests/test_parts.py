"""Promises 9 and 10: a row is made ready once, then any part of it is told."""

import inspect
import unittest

from stretchleast.parts import Ready
from tests.helper import RefusesNoStretch, chance_row, long_rows, searched, short_rows, stretches, walked_sums

METHODS = ("leasts", "greatests", "spreads", "least", "greatest", "first_least")


def asked(ready, begin, end):
    return [getattr(ready, name)(begin, end) for name in METHODS]


def walked_parts(row):
    """For each part what the methods are to tell of it."""
    sums = walked_sums(row)
    found = searched(row)
    for part in stretches(row):
        leasts, greatests = sums[part]
        least, greatest, place, _ = found[part]
        yield part, [leasts, greatests, greatests - leasts, least, greatest, place]


def some_parts(row):
    """Every eleventh part, and all at the row's ends or of a few numbers."""
    for at, (part, wanted) in enumerate(walked_parts(row)):
        begin, end = part
        if at % 11 == 0 or begin == 0 or end == len(row) or end - begin <= 3:
            yield part, wanted


class Interface(unittest.TestCase):
    def test_arguments_are_named_as_in_the_document(self):
        self.assertEqual(list(inspect.signature(Ready).parameters), ["row"])
        for name in METHODS:
            self.assertEqual(list(inspect.signature(getattr(Ready, name)).parameters), ["self", "begin", "end"])

    def test_each_method_stands_in_the_class_itself(self):
        for name in METHODS:
            self.assertIn(name, vars(Ready))


class Parts(unittest.TestCase):
    def check(self, row, parts):
        ready = Ready(row)
        for (begin, end), wanted in parts:
            told = asked(ready, begin, end)
            if told != wanted or any(type(number) is not int for number in told):
                self.fail(f"{row}, {begin}, {end}: {told}, not {wanted}")

    def test_written_out(self):
        ready = Ready([5, 2, 8, 2, 9])
        self.assertEqual(asked(ready, 0, 1), [5, 5, 0, 5, 5, 0])
        # The stretches within are [2], [2, 8], [2, 8, 2], [8], [8, 2], [2].
        self.assertEqual(asked(ready, 1, 4), [18, 36, 18, 2, 8, 1])
        self.assertEqual(asked(ready, 2, 5), [8 + 2 + 2 + 2 + 2 + 9, 8 + 8 + 9 + 2 + 9 + 9, 20, 2, 9, 3])

    def test_row_of_one(self):
        for number in (0, -4, 10 ** 12, -10 ** 12):
            self.assertEqual(asked(Ready([number]), 0, 1), [number, number, 0, number, number, 0])

    def test_all_parts_of_short_rows(self):
        for row in short_rows():
            self.check(row, walked_parts(row))

    def test_all_parts_of_short_rows_stretch_by_stretch(self):
        for row in [chance_row(seed, 9, -2, 2) for seed in range(20)]:
            ready = Ready(row)
            found = searched(row)
            for begin, end in stretches(row):
                within = [told for (one, other), told in found.items() if begin <= one and other <= end]
                self.assertEqual(ready.leasts(begin, end), sum(told[0] for told in within))
                self.assertEqual(ready.greatests(begin, end), sum(told[1] for told in within))
                self.assertEqual(ready.spreads(begin, end), sum(told[1] - told[0] for told in within))

    def test_all_parts_of_rows_of_middle_length(self):
        for many, reach in ((40, 3), (61, 10 ** 12), (75, 40)):
            row = chance_row(many, many, -reach, reach)
            self.check(row, walked_parts(row))

    def test_many_parts_of_rows_of_300(self):
        for name, row in long_rows().items():
            with self.subTest(name):
                self.check(row, some_parts(row))

    def test_row_of_none_is_made_ready(self):
        self.assertIsInstance(Ready([]), Ready)

    def test_somewhat_beyond_the_limits(self):
        row = chance_row(9, 500, -10 ** 15, 10 ** 15)
        self.check(row, some_parts(row))

    def test_asked_again_and_in_any_order(self):
        row = chance_row(4, 30, -5, 5)
        ready = Ready(row)
        parts = list(walked_parts(row))
        for (begin, end), wanted in parts + parts[::-1]:
            self.assertEqual(asked(ready, begin, end), wanted)


class ListBehindTheCall(unittest.TestCase):
    def test_the_list_is_changed(self):
        changes = (
            lambda row: row.clear(),
            lambda row: row.reverse(),
            lambda row: row.append(-10 ** 12),
            lambda row: row.insert(0, -10 ** 12),
            lambda row: row.pop(),
            lambda row: row.__setitem__(3, 10 ** 12),
            lambda row: row.__setitem__(slice(None), [None] * len(row)),
        )
        for seed, change in enumerate(changes):
            row = chance_row(seed, 12, -9, 9)
            wanted = list(walked_parts(row))
            ready = Ready(row)
            change(row)
            for (begin, end), told in wanted:
                self.assertEqual(asked(ready, begin, end), told)
            for name in METHODS:
                with self.assertRaises(ValueError):
                    getattr(ready, name)(0, 13)

    def test_the_list_is_changed_between_questions(self):
        row = [3, 1, 2]
        ready = Ready(row)
        first = asked(ready, 0, 3)
        self.assertEqual(first, [9, 14, 5, 1, 3, 1])
        row[1] = 7
        self.assertEqual(asked(ready, 0, 3), first)
        row.append(-1)
        self.assertEqual(asked(ready, 0, 3), first)
        # The list of now, made ready anew, is told of as it is now.
        self.assertEqual(asked(Ready(row), 0, 4)[3:], [-1, 7, 3])

    def test_rows_made_ready_do_not_touch_each_other(self):
        row = [3, 1, 2]
        one = Ready(row)
        row.reverse()
        other = Ready(row)
        self.assertEqual([one.first_least(0, 3), one.least(0, 1), one.leasts(0, 2)], [1, 3, 5])
        self.assertEqual([other.first_least(0, 3), other.least(0, 1), other.leasts(0, 2)], [1, 2, 4])


class Refusals(RefusesNoStretch, unittest.TestCase):
    tellers = [lambda row, begin, end, name=name: getattr(Ready(row), name)(begin, end) for name in METHODS]

    def test_a_refusal_changes_nothing(self):
        ready = Ready([3, 1, 2])
        first = asked(ready, 0, 3)
        for name in METHODS:
            for begin, end in ((0, 4), (2, 2), (None, []), (-1, 1)):
                with self.assertRaises(ValueError):
                    getattr(ready, name)(begin, end)
        self.assertEqual(asked(ready, 0, 3), first)
