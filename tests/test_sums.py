"""Promise 8: the sums of leasts, greatests and spreads over all stretches of a row."""

import inspect
import unittest

from stretchleast.sums import sum_of_greatests, sum_of_leasts, sum_of_spreads
from tests.helper import ChecksRows, walked_totals

TELLERS = (sum_of_leasts, sum_of_greatests, sum_of_spreads)


class Sums(ChecksRows, unittest.TestCase):
    def told(self, row):
        return [tell(row) for tell in TELLERS]

    def check(self, row):
        told = self.told(row)
        leasts, greatests, _, _ = walked_totals(row)
        self.assertEqual(told, [leasts, greatests, greatests - leasts], row)
        self.assertEqual([type(number) for number in told], [int, int, int])

    def test_arguments_are_named_as_in_the_document(self):
        for tell in TELLERS:
            self.assertEqual(list(inspect.signature(tell).parameters), ["row"])

    def test_row_of_none(self):
        self.assertEqual(self.told([]), [0, 0, 0])
        self.check([])

    def test_row_of_one(self):
        for number in (0, 1, -1, 5, -10 ** 12, 10 ** 12):
            self.assertEqual(self.told([number]), [number, number, 0])

    def test_written_out(self):
        # The leasts of [3, 1, 2]: 3, 1, 1, 1, 1, 2; the greatests: 3, 3, 3, 1, 2, 2.
        self.assertEqual(self.told([3, 1, 2]), [9, 14, 5])
        self.assertEqual(self.told([-3, -1]), [-7, -5, 2])

    def test_alike(self):
        self.assertEqual(self.told([4, 4, 4]), [24, 24, 0])
        self.assertEqual(self.told([-7] * 300), [-7 * 45150, -7 * 45150, 0])

    def test_to_the_limits(self):
        far = 10 ** 12
        self.assertEqual(self.told([far, -far]), [-far, far, 2 * far])
        self.assertEqual(self.told([far] * 300), [45150 * far, 45150 * far, 0])
        self.check([far, -far] * 150)
