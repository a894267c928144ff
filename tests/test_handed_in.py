"""Promise 1: nothing that is handed in is changed or kept; what is told is the asker's own."""

import unittest
import weakref

from stretchleast.counted import by_leasts, many_from, many_to, many_with
from stretchleast.desk import Desk
from stretchleast.errors import NoCommand, NoMany, NoNumber, NoPlace, NoStretch, NoText
from stretchleast.growing import Growing
from stretchleast.manieth import place_of, stretch_at
from stretchleast.notes import read_row, show_row
from stretchleast.papers import paper_of, shows
from stretchleast.parts import Ready
from stretchleast.reach import greatest_reaches, reaches
from stretchleast.rows import greatest_of, is_row, least_of, least_place, spread_of
from stretchleast.spreads import longest_within, many_within
from stretchleast.sums import sum_of_greatests, sum_of_leasts, sum_of_spreads
from stretchleast.trees import is_tree_of, lowest_above, tree_of
from stretchleast.worth import most_worth, worth_of
from tests.helper import long_rows, nested, short_rows

OF_A_STRETCH = (least_of, greatest_of, spread_of, least_place)
READY = ("leasts", "greatests", "spreads", "least", "greatest", "first_least")
WITH_PLACES = (*OF_A_STRETCH, place_of, worth_of,
               *(lambda row, begin, end, name=name: getattr(Ready(row), name)(begin, end) for name in READY))
LISTS = (reaches, greatest_reaches, by_leasts, tree_of, paper_of)
OF_A_ROW = (is_row, *LISTS, sum_of_leasts, sum_of_greatests, sum_of_spreads, Ready, most_worth, show_row)
WITH_A_NUMBER = (many_with, many_from, many_to, many_within, longest_within)
# Told of a row and of anything.
WITH_A_THING = (is_tree_of, shows)


def refusals():
    """What refuses anything that is no text and no whole number, with its refusal: made anew each time."""
    growing, desk = Growing(), Desk()
    return ((growing.put, NoNumber), (growing.take, NoMany), (desk.say, NoCommand), (read_row, NoText),
            (lambda thing: stretch_at([3, 1, 2], thing), NoPlace))


class Kept(list):
    """A list that can be watched: it is gone once nobody holds it."""


def layers(thing):
    """The layers of a nested thing, from the outside, without going deeper by calls."""
    found = []
    while thing is not None:
        found.append(thing)
        thing = thing[0]
    return found


class HandedIn(unittest.TestCase):
    def test_rows_are_as_before(self):
        for row in [*short_rows(), *long_rows().values()]:
            before = list(row)
            for tell in OF_A_ROW:
                tell(row)
            for tell in WITH_PLACES:
                if row:
                    tell(row, 0, len(row))
                with self.assertRaises(NoStretch):
                    tell(row, 1, 0)
            for tell in WITH_A_NUMBER:
                tell(row, 2)
            if row:
                stretch_at(row, len(row) - 1)
            with self.assertRaises(NoPlace):
                stretch_at(row, -1)
            for tell in WITH_A_THING:
                tell(row, row)
                tell(row, [])
            self.assertEqual(row, before)

    def test_told_things_that_are_handed_on_are_as_before(self):
        for row in [*short_rows(), *long_rows().values()]:
            tree, paper = tree_of(row), paper_of(row)
            before = list(tree), list(paper)
            for tell in WITH_A_THING:
                for thing in (tree, paper):
                    tell(row, thing)
                    tell([*row, 1], thing)
                    tell(row[::-1], thing)
            if row:
                lowest_above(tree, 0, len(row) - 1)
            self.assertEqual((tree, paper), before)

    def test_other_things_are_as_before(self):
        things = ([1, True], [[1], 2], {"a": [1]}, [], (1, [2]))
        copies = ([1, True], [[1], 2], {"a": [1]}, [], (1, [2]))
        for thing, copy in zip(things, copies):
            is_row(thing)
            for tell in WITH_PLACES:
                with self.assertRaises(NoStretch):
                    tell([3, 1, 2], thing, thing)
            for deed, error in refusals():
                with self.assertRaises(error):
                    deed(thing)
            for tell in WITH_A_THING:
                tell([3, 1], thing)
            self.assertEqual(thing, copy)

    def test_deep_things_are_as_before(self):
        for make in (lambda inner: [inner], lambda inner: (inner,)):
            deep = nested(make)
            before = layers(deep)
            is_row(deep)
            for tell in WITH_PLACES:
                with self.assertRaises(NoStretch):
                    tell([1, 2], deep, deep)
            for deed, error in refusals():
                with self.assertRaises(error):
                    deed(deep)
            for tell in WITH_A_THING:
                tell([1], deep)
                tell([1, 2], [deep, deep])
                tell([1, 2], [(0, deep), (deep, 2)])
            after = layers(deep)
            self.assertEqual(len(after), len(before))
            self.assertTrue(all(one is other for one, other in zip(before, after)))

    def test_nothing_is_kept(self):
        calls = [(tell, ()) for tell in OF_A_ROW]
        calls += [(tell, (0, 3)) for tell in WITH_PLACES]
        calls += [(tell, (2,)) for tell in (*WITH_A_NUMBER, stretch_at)]
        calls += [(tell, ([1, None, 1],)) for tell in WITH_A_THING]
        for tell, more in calls:
            row = Kept([3, 1, 2])
            watched = weakref.ref(row)
            told = tell(row, *more)
            del row
            self.assertIsNone(watched(), tell.__name__)
            # What is told was alive until here, a row made ready too.
            del told

    def test_no_thing_is_kept(self):
        row = [3, 1, 2]
        calls = [(tell, told) for tell in WITH_A_THING for told in (tree_of(row), paper_of(row))]
        calls.append((lambda row, tree: lowest_above(tree, 0, 2), tree_of(row)))
        for tell, told in calls:
            thing = Kept(told)
            watched = weakref.ref(thing)
            tell(row, thing)
            del thing
            self.assertIsNone(watched())

    def test_nothing_refused_is_kept(self):
        for deed, error in refusals():
            thing = Kept([3, 1, 2])
            watched = weakref.ref(thing)
            with self.assertRaises(error):
                deed(thing)
            del thing
            # What refused it, a growing row or a desk too, was alive until here.
            self.assertIsNone(watched())


class Told(unittest.TestCase):
    def test_each_told_list_is_a_new_one(self):
        row = [3, 1, 2]
        for tell in LISTS:
            one, other = tell(row), tell(row)
            self.assertEqual(one, other)
            self.assertIsNot(one, other)
            self.assertIsNot(one, row)
            self.assertIsNot(tell([]), tell([]))

    def test_what_the_asker_does_to_a_told_list_changes_nothing(self):
        for row in ([], [4], [3, 1, 2, 1], [7, 7]):
            for tell in LISTS:
                told = tell(row)
                before = list(told)
                told.append("more")
                told.reverse()
                self.assertEqual(tell(row), before)
                told.clear()
                self.assertEqual(tell(row), before)

    def test_a_row_that_is_changed_behind_the_call(self):
        row = [3, 1, 2]
        told, greatest_told, counted, tree, paper = [tell(row) for tell in LISTS]
        row[0] = 0
        row.append(-9)
        self.assertEqual(told, [(0, 1), (0, 3), (2, 3)])
        self.assertEqual(greatest_told, [(0, 3), (1, 2), (1, 3)])
        self.assertEqual(counted, [(1, 4), (2, 1), (3, 1)])
        self.assertEqual(tree, [1, None, 1])
        self.assertEqual(paper, told)
        # What is asked anew is told of the row as it now is.
        self.assertEqual(reaches(row), [(0, 3), (1, 3), (2, 3), (0, 4)])
        self.assertEqual(greatest_reaches(row), [(0, 1), (0, 2), (0, 4), (3, 4)])
        self.assertEqual([tell(row, 0, 4) for tell in OF_A_STRETCH], [-9, 2, 11, 3])
        self.assertEqual(by_leasts(row), [(-9, 4), (0, 3), (1, 2), (2, 1)])
        self.assertEqual([sum_of_leasts(row), sum_of_greatests(row), sum_of_spreads(row)], [-32, 5, 37])
        self.assertEqual([tell(row, 0) for tell in WITH_A_NUMBER], [3, 6, 7, 4, (0, 1)])
        self.assertEqual([stretch_at(row, 0), place_of(row, 0, 1)], [(-9, 0, 4), 4])
        self.assertEqual([tree_of(row), is_tree_of(row, [1, None, 1])], [[3, 0, 1, None], False])
        self.assertEqual([most_worth(row), worth_of(row, 0, 4)], [(2, 1, 3), -36])
        self.assertEqual([shows(row, paper), shows(row, paper_of(row)), show_row(row)], [None, -32, "0 1 2 -9"])
        self.assertIs(is_row(row), True)
        row.append(True)
        self.assertIs(is_row(row), False)
        # A copy that was told of earlier is told of as it was.
        self.assertEqual(reaches([3, 1, 2]), told)

    def test_lists_that_are_told_of_texts_and_growing_rows(self):
        growing = Growing()
        growing.put(3)
        growing.put(1)
        for tell in (growing.numbers, lambda: read_row("3 1"), Growing().numbers, lambda: read_row("-")):
            told = tell()
            before = list(told)
            told.append("more")
            self.assertEqual(tell(), before)
            told.clear()
            self.assertEqual(tell(), before)
            self.assertIsNot(tell(), tell())
        self.assertEqual(growing.many(), 2)
