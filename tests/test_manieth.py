"""Promises 13 and 14: all stretches ordered by their leasts, then by begin, then by end."""

import inspect
import unittest

from stretchleast.errors import NoPlace
from stretchleast.manieth import place_of, stretch_at
from tests.helper import RefusesNoStretch, chance_row, long_rows, no_whole_numbers, ordered, short_rows


class Interface(unittest.TestCase):
    def test_arguments_are_named_as_in_the_document(self):
        self.assertEqual(list(inspect.signature(stretch_at).parameters), ["row", "place"])
        self.assertEqual(list(inspect.signature(place_of).parameters), ["row", "begin", "end"])


class Order(unittest.TestCase):
    def check(self, row, step=1):
        order = ordered(row)
        for place in [*range(0, len(order), step), *range(len(order))[-1:]]:
            least, begin, end = order[place]
            told = stretch_at(row, place)
            if told != (least, begin, end) or [type(part) for part in told] != [int, int, int]:
                self.fail(f"{row}, {place}: {told}, not {order[place]}")
            self.assertIs(type(told), tuple)
            back = place_of(row, begin, end)
            if back != place or type(back) is not int:
                self.fail(f"{row}, {begin}, {end}: {back}, not {place}")

    def test_written_out(self):
        row = [5, 2, 8, 2]
        order = [(2, 0, 2), (2, 0, 3), (2, 0, 4), (2, 1, 2), (2, 1, 3), (2, 1, 4), (2, 2, 4), (2, 3, 4),
                 (5, 0, 1), (8, 2, 3)]
        self.assertEqual([stretch_at(row, place) for place in range(10)], order)
        self.assertEqual([place_of(row, begin, end) for _, begin, end in order], list(range(10)))

    def test_alike(self):
        self.assertEqual([stretch_at([4, 4, 4], place) for place in range(6)],
                         [(4, 0, 1), (4, 0, 2), (4, 0, 3), (4, 1, 2), (4, 1, 3), (4, 2, 3)])

    def test_row_of_one(self):
        for number in (0, -6, 10 ** 12, -10 ** 12):
            self.assertEqual(stretch_at([number], 0), (number, 0, 1))
            self.assertEqual(place_of([number], 0, 1), 0)

    def test_every_place_of_short_rows(self):
        for row in short_rows():
            self.check(row)

    def test_every_place_of_rows_of_middle_length(self):
        for many, reach in ((20, 2), (33, 10 ** 12), (40, 9)):
            self.check(chance_row(many, many, -reach, reach))

    def test_many_places_of_rows_of_300(self):
        for name, row in long_rows().items():
            with self.subTest(name):
                self.check(row, 59)

    def test_somewhat_beyond_the_limits(self):
        self.check(chance_row(7, 500, -10 ** 15, 10 ** 15), 500)

    def test_one_is_the_others_way_back(self):
        for name, row in long_rows().items():
            with self.subTest(name):
                for place in [*range(3), *range(100, 45150, 401), *range(45147, 45150)]:
                    least, begin, end = stretch_at(row, place)
                    self.assertEqual(place_of(row, begin, end), place)
                    self.assertEqual(stretch_at(row, place_of(row, begin, end)), (least, begin, end))


class NoPlaces(unittest.TestCase):
    def refused(self, row, place):
        with self.assertRaises(NoPlace) as caught:
            stretch_at(row, place)
        self.assertIs(type(caught.exception), NoPlace)
        self.assertIsInstance(str(caught.exception), str)

    def test_places_beyond_the_order(self):
        for row in [*short_rows(), *long_rows().values()]:
            every = len(row) * (len(row) + 1) // 2
            for place in (-1, -2, -every, -every - 1, every, every + 1, 2 * every + 1):
                if place not in range(every):
                    self.refused(row, place)

    def test_places_far_beyond(self):
        for row in ([], [1], [3, 1, 2]):
            # 10 ** 6000 has more figures than Python writes out.
            for far in (10 ** 30, -10 ** 30, 10 ** 6000, -10 ** 6000):
                self.refused(row, far)

    def test_any_place_of_a_row_of_none(self):
        for place in (-1, 0, 1, 2, 300):
            self.refused([], place)

    def test_things_of_every_kind(self):
        for name, wrong in no_whole_numbers().items():
            with self.subTest(name):
                for row in ([], [1], [3, 1, 2], [4, 4]):
                    self.refused(row, wrong)

    def test_truths_are_no_places(self):
        self.refused([3, 1, 2], True)
        self.refused([3, 1, 2], False)


class NoStretches(RefusesNoStretch, unittest.TestCase):
    tellers = (place_of,)
