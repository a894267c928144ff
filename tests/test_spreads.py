"""Promises 15 and 16: how many stretches have a small spread, and which is the longest."""

import inspect
import unittest

from stretchleast.spreads import longest_within, many_within
from tests.helper import chance_row, long_rows, searched, short_rows

TELLERS = (many_within, longest_within)
FAR = (10 ** 12, 2 * 10 ** 12, 10 ** 13, 10 ** 30)


def walked_spreads(row):
    """Each stretch with its spread, by begin, then by end."""
    return [(stretch, found[1] - found[0]) for stretch, found in searched(row).items()]


def walked_many(spreads, number):
    return sum(spread <= number for _, spread in spreads)


def walked_longest(spreads, number):
    longest = None
    for (begin, end), spread in spreads:
        if spread <= number and (longest is None or end - begin > longest[1] - longest[0]):
            longest = (begin, end)
    return longest


def near(numbers):
    return sorted({number + step for number in numbers for step in (-1, 0, 1)})


class Interface(unittest.TestCase):
    def test_arguments_are_named_as_in_the_document(self):
        for tell in TELLERS:
            self.assertEqual(list(inspect.signature(tell).parameters), ["row", "spread"])


class Spreads(unittest.TestCase):
    def check(self, row, choose=near):
        """Hold a row against the walk, at numbers chosen out of its spreads, and at far ones."""
        spreads = walked_spreads(row)
        chosen = choose(sorted({spread for _, spread in spreads}))
        for number in [*chosen, 0, -1, -2, *FAR, *(-far for far in FAR)]:
            many = many_within(row, number)
            longest = longest_within(row, number)
            if many != walked_many(spreads, number) or type(many) is not int:
                self.fail(f"{row}, {number}: {many}")
            if longest != walked_longest(spreads, number):
                self.fail(f"{row}, {number}: {longest}")
            if longest is not None:
                self.assertIs(type(longest), tuple)
                self.assertEqual([type(place) for place in longest], [int, int])

    def some(self, spreads):
        """The least and the greatest spreads of many, some between, and the numbers beside each."""
        return near([*spreads[:4], *spreads[:-1:len(spreads) // 8 + 1], *spreads[-4:]])

    def test_row_of_none(self):
        for number in (0, 1, -1, 10 ** 30, -10 ** 30):
            self.assertEqual(many_within([], number), 0)
            self.assertIsNone(longest_within([], number))

    def test_row_of_one(self):
        for number in (0, -3, 10 ** 12, -10 ** 12):
            self.assertEqual([many_within([number], most) for most in (-1, 0, 1)], [0, 1, 1])
            self.assertEqual([longest_within([number], most) for most in (-1, 0, 1)], [None, (0, 1), (0, 1)])

    def test_written_out(self):
        row = [5, 2, 8, 2]
        # The spreads: 0 of each number alone; 3, 6, 6 from the first place; 6, 6 from the second; 6 from the third.
        self.assertEqual([many_within(row, most) for most in (-1, 0, 2, 3, 5, 6, 7)], [0, 4, 4, 5, 5, 10, 10])
        self.assertEqual([longest_within(row, most) for most in (-1, 0, 2, 3, 5, 6)],
                         [None, (0, 1), (0, 1), (0, 2), (0, 2), (0, 4)])

    def test_no_stretch_has_a_spread_below_nought(self):
        for row in ([], [1], [4, 4, 4], [-5, -5], [3, 1, 2], list(range(300))):
            for number in (-1, -2, -10 ** 12, -10 ** 30):
                self.assertEqual(many_within(row, number), 0)
                self.assertIsNone(longest_within(row, number))

    def test_alike(self):
        for many in (2, 3, 300):
            row = [-7] * many
            for number in (0, 1, 10 ** 30):
                self.assertEqual(many_within(row, number), many * (many + 1) // 2)
                self.assertEqual(longest_within(row, number), (0, many))

    def test_rising_and_falling(self):
        for row in (list(range(-150, 150)), list(range(150, -150, -1))):
            for number in (0, 1, 7, 298, 299, 300):
                long = min(number + 1, 300)
                self.assertEqual(many_within(row, number), sum(301 - length for length in range(1, long + 1)))
                self.assertEqual(longest_within(row, number), (0, long))

    def test_of_several_longest_the_one_with_the_least_begin(self):
        self.assertEqual(longest_within([1, 9, 5, 5, 9, 7, 7], 0), (2, 4))
        self.assertEqual(longest_within([5, 5, 0, 5, 5, 5, 0, 6, 6, 6], 0), (3, 6))
        self.assertEqual(longest_within([0, 3, 1, 2, 9, 9, 8], 2), (1, 4))
        self.assertEqual(longest_within([3, 1, 2], 0), (0, 1))

    def test_the_longest_one_at_the_rows_end(self):
        self.assertEqual(longest_within([0, 9, 4, 4, 4], 0), (2, 5))
        self.assertEqual(longest_within([0, 9, 4, 5, 6], 2), (2, 5))

    def test_short_rows_by_a_walk(self):
        for row in short_rows():
            self.check(row)

    def test_rows_of_every_length_by_a_walk(self):
        for many in range(1, 301, 23):
            for reach in (1, 20, 10 ** 12):
                self.check(chance_row(many + reach, many, -reach, reach), self.some)

    def test_rows_of_300_by_a_walk(self):
        for name, row in long_rows().items():
            with self.subTest(name):
                self.check(row, self.some)

    def test_numbers_to_the_limits(self):
        far = 10 ** 12
        self.check([far, -far, far])
        self.assertEqual(many_within([far, -far], 2 * far - 1), 2)
        self.assertEqual(many_within([far, -far], 2 * far), 3)
        self.assertEqual(longest_within([far, -far], 2 * far - 1), (0, 1))
        self.assertEqual(longest_within([far, -far], 2 * far), (0, 2))

    def test_somewhat_beyond_the_limits(self):
        self.check(chance_row(5, 500, -10 ** 15, 10 ** 15), self.some)
