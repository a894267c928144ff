"""Promises 6 and 7: the reaches of all places, for the least and for the greatest."""

import inspect
import unittest

from stretchleast.reach import greatest_reaches, reaches
from tests.helper import long_rows, searched, short_rows

LEAST_AT = 2
GREATEST_AT = 3


def good_stretches(firsts, place, many):
    """The (begin, end) around a place such that each stretch within them that holds the place has it as its first."""
    good = set()
    for begin in range(place, -1, -1):
        for end in range(place + 1, many + 1):
            narrower = (begin == place or (begin + 1, end) in good) and (end == place + 1 or (begin, end - 1) in good)
            if narrower and firsts[begin, end] == place:
                good.add((begin, end))
    return good


def reaches_by_words(row, which):
    firsts = {stretch: found[which] for stretch, found in searched(row).items()}
    told = []
    for place in range(len(row)):
        good = good_stretches(firsts, place, len(row))
        reach = (min(begin for begin, end in good), max(end for begin, end in good))
        # The least begin and the greatest end go together, so the words name one stretch.
        assert reach in good
        told.append(reach)
    return told


class Reaches(unittest.TestCase):
    def check(self, row):
        for tell, which in ((reaches, LEAST_AT), (greatest_reaches, GREATEST_AT)):
            self.assertEqual(tell(row), reaches_by_words(row, which), (tell.__name__, row))

    def test_arguments_are_named_as_in_the_document(self):
        for tell in (reaches, greatest_reaches):
            self.assertEqual(list(inspect.signature(tell).parameters), ["row"])

    def test_row_of_none(self):
        self.assertEqual(reaches([]), [])
        self.assertEqual(greatest_reaches([]), [])

    def test_row_of_one(self):
        for number in (0, -5, 10 ** 12, -10 ** 12):
            self.assertEqual(reaches([number]), [(0, 1)])
            self.assertEqual(greatest_reaches([number]), [(0, 1)])

    def test_alike(self):
        # Only the first of like numbers has those behind it in its reach.
        self.assertEqual(reaches([4, 4, 4]), [(0, 3), (1, 3), (2, 3)])
        self.assertEqual(greatest_reaches([4, 4, 4]), [(0, 3), (1, 3), (2, 3)])

    def test_rising(self):
        self.assertEqual(reaches([1, 2, 3]), [(0, 3), (1, 3), (2, 3)])
        self.assertEqual(greatest_reaches([1, 2, 3]), [(0, 1), (0, 2), (0, 3)])

    def test_falling(self):
        self.assertEqual(reaches([3, 2, 1]), [(0, 1), (0, 2), (0, 3)])
        self.assertEqual(greatest_reaches([3, 2, 1]), [(0, 3), (1, 3), (2, 3)])

    def test_up_and_down(self):
        self.assertEqual(reaches([5, 2, 8, 2]), [(0, 1), (0, 4), (2, 3), (2, 4)])
        self.assertEqual(greatest_reaches([5, 2, 8, 2]), [(0, 2), (1, 2), (0, 4), (3, 4)])

    def test_short_rows_by_the_words(self):
        for row in short_rows():
            self.check(row)

    def test_rows_of_300_by_the_words(self):
        for name, row in long_rows().items():
            with self.subTest(name):
                self.check(row)

    def test_kinds_of_what_is_told(self):
        for row in ([], [1], [3, 1, 2], [-10 ** 12, 10 ** 12]):
            for tell in (reaches, greatest_reaches):
                told = tell(row)
                self.assertIs(type(told), list)
                for reach in told:
                    self.assertIs(type(reach), tuple)
                    self.assertEqual([type(place) for place in reach], [int, int])
