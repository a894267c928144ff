"""Promises 21 to 23: the paper of a row, and what a thing shows as a paper."""

import inspect
import unittest
from itertools import product

from stretchleast.papers import paper_of, shows
from stretchleast.reach import reaches
from stretchleast.sums import sum_of_leasts
from tests.helper import ChecksRows, chance_row, long_rows, no_whole_numbers, searched, short_rows


def walked_paper(row):
    """The reaches of all places, found by walking from each place as far as the numbers allow."""
    paper = []
    for place, number in enumerate(row):
        begin, end = place, place + 1
        while begin > 0 and row[begin - 1] > number:
            begin -= 1
        while end < len(row) and row[end] >= number:
            end += 1
        paper.append((begin, end))
    return paper


def walked_sum(row):
    return sum(found[0] for found in searched(row).values())


def otherwise(paper, at, reach):
    """The paper with another thing instead of the reach of one place."""
    return [*paper[:at], reach, *paper[at + 1:]]


class Interface(unittest.TestCase):
    def test_arguments_are_named_as_in_the_document(self):
        self.assertEqual(list(inspect.signature(paper_of).parameters), ["row"])
        self.assertEqual(list(inspect.signature(shows).parameters), ["row", "thing"])


class Papers(ChecksRows, unittest.TestCase):
    def check(self, row):
        paper = paper_of(row)
        self.assertEqual(paper, walked_paper(row), row)
        self.assertEqual(paper, reaches(row))
        self.assertIs(type(paper), list)
        for reach in paper:
            self.assertIs(type(reach), tuple)
            self.assertEqual([type(place) for place in reach], [int, int])
        shown = shows(row, paper)
        self.assertEqual(shown, walked_sum(row), row)
        self.assertEqual(shown, sum_of_leasts(row))
        self.assertIs(type(shown), int)

    def test_row_of_none(self):
        self.assertEqual(paper_of([]), [])
        self.check([])
        self.assertEqual(shows([], []), 0)

    def test_row_of_one(self):
        for number in (0, -3, 10 ** 12, -10 ** 12):
            self.assertEqual(paper_of([number]), [(0, 1)])
            self.assertEqual(shows([number], [(0, 1)]), number)

    def test_written_out(self):
        self.assertEqual(paper_of([5, 2, 8, 2]), [(0, 1), (0, 4), (2, 3), (2, 4)])
        self.assertEqual(shows([5, 2, 8, 2], [(0, 1), (0, 4), (2, 3), (2, 4)]), 5 + 2 * 6 + 8 + 2 * 2)
        self.assertEqual(shows([-4, -4], [(0, 2), (1, 2)]), -12)
        # A sum of 0 is one, too.
        self.assertEqual(shows([0, 0], [(0, 2), (1, 2)]), 0)

    def test_the_told_list_is_changed_and_asked_again(self):
        for row in ([], [4], [3, 1, 2], [7, 7, 7], chance_row(8, 40, -3, 3)):
            told = paper_of(row)
            before = list(told)
            told.append((0, 1))
            told.reverse()
            self.assertEqual(paper_of(row), before)
            told.clear()
            self.assertEqual(paper_of(row), before)
            self.assertEqual(shows(row, before), walked_sum(row))
            self.assertIsNot(paper_of(row), paper_of(row))


class NoPapers(unittest.TestCase):
    def shows_nothing(self, row, thing):
        if shows(row, thing) is not None:
            self.fail(f"{row}: {thing}")

    def test_all_lists_of_reaches_of_very_short_rows(self):
        for many in range(4):
            # A number below 0 and one beyond the length are among the places.
            every = list(product(range(-1, many + 2), repeat=2)) if many < 3 else list(product(range(4), repeat=2))
            for row in product((1, 2, 3), repeat=many):
                row = list(row)
                own = walked_paper(row)
                for thing in product(every, repeat=many):
                    if list(thing) != own:
                        self.shows_nothing(row, list(thing))

    def test_one_reach_has_another_begin_or_end(self):
        for row in short_rows():
            paper = paper_of(row)
            for at, (begin, end) in enumerate(paper):
                for other in range(-2, len(row) + 3):
                    if other != begin:
                        self.shows_nothing(row, otherwise(paper, at, (other, end)))
                    if other != end:
                        self.shows_nothing(row, otherwise(paper, at, (begin, other)))

    def test_one_reach_of_a_row_of_300_is_otherwise(self):
        for row in long_rows().values():
            paper = paper_of(row)
            for at in [*range(0, 300, 37), 299]:
                begin, end = paper[at]
                others = [(begin - 1, end), (begin + 1, end), (begin, end - 1), (begin, end + 1), (end, begin),
                          (0, 300), (at, at + 1), (at + 1, end), (begin, at), (-1, 301), (0, 10 ** 30),
                          (-10 ** 30, end)]
                for other in others:
                    if other != paper[at]:
                        self.shows_nothing(row, otherwise(paper, at, other))
                self.shows_nothing(row, paper[:at] + paper[at + 1:])
                self.shows_nothing(row, [*paper[:at], paper[at], *paper[at:]])

    def test_all_reaches_are_narrower(self):
        for row in [*short_rows(), *long_rows().values()]:
            if len(row) > 1:
                # Each holds its place and no number that must not be in it, but few stretches are counted.
                self.shows_nothing(row, [(place, place + 1) for place in range(len(row))])

    def test_one_narrower_and_another_one_wider(self):
        # As many stretches are counted as there are, and the sum would be the same.
        self.shows_nothing([4, 4], [(0, 1), (0, 2)])
        self.shows_nothing([4, 4, 4], [(0, 1), (0, 2), (0, 3)])
        self.shows_nothing([4, 4, 4], [(0, 3), (1, 2), (1, 3)])
        # Likewise, but for the sum: a number ahead that is less, one behind that is less.
        self.shows_nothing([1, 2], [(0, 1), (0, 2)])
        self.shows_nothing([2, 1], [(0, 2), (1, 2)])

    def test_a_reach_is_left_out_or_put_in(self):
        for row in short_rows():
            paper = paper_of(row)
            for at in range(len(paper)):
                self.shows_nothing(row, paper[:at] + paper[at + 1:])
            for at in range(len(paper) + 1):
                for reach in [*paper, (at, at + 1), (0, len(row)), (0, 0), None, ()]:
                    self.shows_nothing(row, [*paper[:at], reach, *paper[at:]])

    def test_two_reaches_are_exchanged(self):
        for row in short_rows():
            paper = paper_of(row)
            for one in range(len(row)):
                for other in range(one):
                    # No two places have the same reach.
                    turned = list(paper)
                    turned[one], turned[other] = paper[other], paper[one]
                    self.shows_nothing(row, turned)

    def test_reaches_that_do_not_hold_their_place(self):
        self.shows_nothing([3, 1, 2], [(1, 1), (0, 3), (2, 3)])
        self.shows_nothing([3, 1, 2], [(0, 0), (0, 3), (2, 3)])
        self.shows_nothing([3, 1, 2], [(0, 1), (0, 3), (0, 2)])
        self.shows_nothing([3, 1, 2], [(0, 1), (0, 3), (3, 3)])
        self.shows_nothing([7], [(1, 1)])
        self.shows_nothing([7], [(0, 0)])
        self.shows_nothing([7], [(1, 0)])

    def test_reaches_beyond_the_row(self):
        # As slices these would hold the same numbers.
        self.shows_nothing([3, 1, 2], [(0, 1), (0, 4), (2, 3)])
        self.shows_nothing([3, 1, 2], [(0, 1), (0, 3), (-1, 3)])
        self.shows_nothing([3, 1, 2], [(0, 1), (-3, 3), (2, 3)])
        self.shows_nothing([3, 1, 2], [(0, -2), (0, 3), (2, 3)])
        self.shows_nothing([7], [(-1, 1)])
        self.shows_nothing([7], [(0, 2)])
        self.shows_nothing([7], [(0, 10 ** 6000)])

    def test_reaches_that_are_no_tuples_of_two(self):
        row = [3, 1, 2]
        paper = paper_of(row)
        for at, (begin, end) in enumerate(paper):
            for wrong in ([begin, end], (begin,), (end,), (), (begin, end, end), (begin, end, None), ((begin, end),),
                          (begin, (end,)), {begin: end}, f"({begin}, {end})", range(begin, end), begin, end):
                self.shows_nothing(row, otherwise(paper, at, wrong))

    def test_truths_are_no_places(self):
        self.assertEqual(shows([3, 1, 2], [(0, 1), (0, 3), (2, 3)]), 9)
        for at, wrong in ((0, (False, 1)), (0, (0, True)), (0, (False, True)), (1, (False, 3))):
            self.shows_nothing([3, 1, 2], otherwise([(0, 1), (0, 3), (2, 3)], at, wrong))

    def test_things_of_every_kind_in_a_reach(self):
        row = [1, 3, 2]
        paper = paper_of(row)
        for name, wrong in no_whole_numbers().items():
            for at, (begin, end) in enumerate(paper):
                with self.subTest(name, at=at):
                    # Deep things are not to be written out, so these are asked without a message.
                    for reach in (wrong, (wrong, end), (begin, wrong), (wrong, wrong), (begin, end, wrong), (wrong,)):
                        self.assertTrue(shows(row, otherwise(paper, at, reach)) is None)
                    self.assertTrue(shows(row, [*paper[:at], wrong, *paper[at:]]) is None)

    def test_things_of_every_kind(self):
        row = [3, 1, 2]
        others = no_whole_numbers()
        paper = paper_of(row)
        others.update({"a whole number": 9, "a tuple of reaches": tuple(paper), "a paper in a list": [paper]})
        others.update({"a dict of reaches": dict(enumerate(paper)), "a text": str(paper), "a generator": iter(paper)})
        others.update({"lists of places": [[0, 1], [0, 3], [2, 3]], "places": [0, 1, 0, 3, 2, 3]})
        for name, other in others.items():
            with self.subTest(name):
                self.assertTrue(shows(row, other) is None)
                self.assertTrue(shows([3], other) is None)

    def test_the_paper_of_a_row_of_none(self):
        others = {**no_whole_numbers(), "nought": 0, "a reach of none": [(0, 0)], "a list in a list": [[]]}
        del others["an empty list"]
        for name, other in others.items():
            with self.subTest(name):
                self.assertTrue(shows([], other) is None)

    def test_papers_of_other_rows(self):
        rows = [row for row in short_rows() if len(row) < 5]
        papers = [walked_paper(row) for row in rows]
        for row, own in zip(rows, papers):
            wanted = walked_sum(row)
            for paper in papers:
                if shows(row, paper) != (wanted if paper == own else None):
                    self.fail(f"{row}: {paper}")

    def test_papers_of_other_long_rows(self):
        rows = long_rows()
        papers = {name: walked_paper(row) for name, row in rows.items()}
        for name, row in rows.items():
            for other, paper in papers.items():
                with self.subTest(name, other=other):
                    self.assertEqual(shows(row, paper), sum_of_leasts(row) if paper == papers[name] else None)
