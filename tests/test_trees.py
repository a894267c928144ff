"""Promises 18 to 20: the tree of a row, whether a thing is it, and the lowest place above two places."""

import inspect
import unittest

from stretchleast.trees import is_tree_of, lowest_above, tree_of
from tests.helper import ChecksRows, chance_row, long_rows, no_whole_numbers, searched, short_rows


def tree_by_words(row):
    """The tree as promise 18 makes it: the first place of the least, ahead of it and behind it trees again."""
    tree = [None] * len(row)
    parts = [(0, len(row), None)]
    while parts:
        begin, end, above = parts.pop()
        if begin < end:
            top = begin + row[begin:end].index(min(row[begin:end]))
            tree[top] = above
            parts += [(begin, top, top), (top + 1, end, top)]
    return tree


class Interface(unittest.TestCase):
    def test_arguments_are_named_as_in_the_document(self):
        self.assertEqual(list(inspect.signature(tree_of).parameters), ["row"])
        self.assertEqual(list(inspect.signature(is_tree_of).parameters), ["row", "thing"])
        self.assertEqual(list(inspect.signature(lowest_above).parameters), ["tree", "one", "other"])


class Trees(ChecksRows, unittest.TestCase):
    def check(self, row):
        told = tree_of(row)
        self.assertEqual(told, tree_by_words(row), row)
        self.assertIs(type(told), list)
        for place in told:
            if place is not None and type(place) is not int:
                self.fail(f"{row}: {told}")

    def test_row_of_none(self):
        self.assertEqual(tree_of([]), [])

    def test_row_of_one(self):
        for number in (0, -3, 10 ** 12, -10 ** 12):
            self.assertEqual(tree_of([number]), [None])

    def test_written_out(self):
        self.assertEqual(tree_of([5, 2, 8, 2]), [1, None, 3, 1])
        self.assertEqual(tree_of([3, 1, 2]), [1, None, 1])
        self.assertEqual(tree_of([1, 5, 1]), [None, 2, 0])
        self.assertEqual(tree_of([4, 9, 6, 9, 4, 0]), [5, 2, 4, 2, 0, None])

    def test_of_like_leasts_the_first_is_the_top(self):
        self.assertEqual(tree_of([4, 4, 4]), [None, 0, 1])
        self.assertEqual(tree_of([7] * 300), [None, *range(299)])

    def test_rising_and_falling(self):
        self.assertEqual(tree_of(list(range(-150, 150))), [None, *range(299)])
        self.assertEqual(tree_of(list(range(150, -150, -1))), [*range(1, 300), None])

    def test_trees_of_a_thousand_layers(self):
        self.check(list(range(1500)))
        self.check(list(range(1500, 0, -1)))

    def test_the_told_list_is_changed_and_asked_again(self):
        for row in ([], [4], [3, 1, 2], [7, 7, 7], chance_row(8, 40, -3, 3)):
            told = tree_of(row)
            before = list(told)
            told.append(0)
            told.reverse()
            self.assertEqual(tree_of(row), before)
            told.clear()
            self.assertEqual(tree_of(row), before)
            self.assertIs(is_tree_of(row, before), True)
            self.assertIsNot(tree_of(row), tree_of(row))


def changed_trees(tree, others):
    """The tree with any one place exchanged with another thing, left out, or one thing put in."""
    for at in range(len(tree)):
        yield tree[:at] + tree[at + 1:]
        for other in others:
            if other != tree[at]:
                yield [*tree[:at], other, *tree[at + 1:]]
    for at in range(len(tree) + 1):
        for other in others:
            yield [*tree[:at], other, *tree[at:]]


class IsTree(unittest.TestCase):
    def test_the_told_tree(self):
        for row in [*short_rows(), *long_rows().values(), list(range(1500))]:
            self.assertIs(is_tree_of(row, tree_of(row)), True)
            self.assertIs(is_tree_of(row, tree_by_words(row)), True)

    def test_one_place_is_otherwise(self):
        for row in short_rows():
            for other in changed_trees(tree_of(row), [None, *range(-1, len(row) + 1)]):
                if is_tree_of(row, other) is not False:
                    self.fail(f"{row}: {other}")

    def test_one_place_of_a_row_of_300_is_otherwise(self):
        for name, row in long_rows().items():
            tree = tree_of(row)
            for at in [*range(0, 300, 29), 299]:
                for other in (None, -1, at, 299, 300, tree[at - 1], 10 ** 30):
                    if other != tree[at]:
                        with self.subTest(name, at=at, other=other):
                            self.assertIs(is_tree_of(row, [*tree[:at], other, *tree[at + 1:]]), False)
                self.assertIs(is_tree_of(row, tree[:at] + tree[at + 1:]), False)
                self.assertIs(is_tree_of(row, [*tree[:at], at, *tree[at:]]), False)

    def test_two_places_are_exchanged(self):
        for row in short_rows():
            tree = tree_of(row)
            for one in range(len(row)):
                for other in range(one):
                    turned = list(tree)
                    turned[one], turned[other] = tree[other], tree[one]
                    self.assertIs(is_tree_of(row, turned), turned == tree)

    def test_trees_of_other_rows(self):
        rows = [row for row in short_rows() if len(row) < 5]
        trees = [tree_by_words(row) for row in rows]
        for row, own in zip(rows, trees):
            for tree in trees:
                if is_tree_of(row, tree) is not (tree == own):
                    self.fail(f"{row}: {tree}")

    def test_trees_of_other_long_rows(self):
        rows = long_rows()
        trees = {name: tree_by_words(row) for name, row in rows.items()}
        for name, row in rows.items():
            for other, tree in trees.items():
                with self.subTest(name, other=other):
                    self.assertIs(is_tree_of(row, tree), tree == trees[name])

    def test_truths_are_no_places(self):
        self.assertIs(is_tree_of([1, 2], [None, 0]), True)
        self.assertIs(is_tree_of([1, 2], [None, False]), False)
        self.assertIs(is_tree_of([3, 1, 2], [1, None, 1]), True)
        for wrong in ([True, None, 1], [1, None, True], [True, None, True], [1, False, 1]):
            self.assertIs(is_tree_of([3, 1, 2], wrong), False)

    def test_things_of_every_kind(self):
        others = no_whole_numbers()
        others.update({"a whole number": 1, "a great one": 10 ** 6000, "a text of a tree": "[1, None, 1]"})
        others.update({"a tuple of places": (1, None, 1), "a tree in a list": [[1, None, 1]]})
        others.update({"lists of places": [[1], [None], [1]], "a dict of places": {0: 1, 1: None, 2: 1}})
        others.update({"a generator": iter([1, None, 1]), "a tree of texts": ["1", "None", "1"]})
        for name, other in others.items():
            with self.subTest(name):
                self.assertIs(is_tree_of([3, 1, 2], other), False)
                self.assertIs(is_tree_of([3], other), False)

    def test_things_of_every_kind_for_places(self):
        for name, wrong in no_whole_numbers().items():
            with self.subTest(name):
                for row in ([3, 1, 2], [1, 2, 0], [7, 7], [5]):
                    tree = tree_of(row)
                    for at in range(len(row)):
                        if wrong is not tree[at]:
                            self.assertIs(is_tree_of(row, [*tree[:at], wrong, *tree[at + 1:]]), False)
                        self.assertIs(is_tree_of(row, [*tree[:at], wrong, *tree[at:]]), False)
                    self.assertIs(is_tree_of(row, [wrong] * len(row)), wrong is None and row == [5])

    def test_the_tree_of_a_row_of_none(self):
        self.assertIs(is_tree_of([], []), True)
        others = {**no_whole_numbers(), "nought": 0, "a list of None": [None], "a list in a list": [[]]}
        del others["an empty list"]
        for name, other in others.items():
            with self.subTest(name):
                self.assertIs(is_tree_of([], other), False)


class LowestAbove(unittest.TestCase):
    def check(self, row, places):
        tree = tree_of(row)
        found = searched(row)
        for one in places:
            for other in places:
                first = found[min(one, other), max(one, other) + 1][2]
                told = lowest_above(tree, one, other)
                if told != first or type(told) is not int:
                    self.fail(f"{row}, {one}, {other}: {told}, not {first}")

    def test_written_out(self):
        tree = tree_of([5, 2, 8, 2])
        self.assertEqual([lowest_above(tree, 2, 3), lowest_above(tree, 3, 2)], [3, 3])
        self.assertEqual([lowest_above(tree, 0, 3), lowest_above(tree, 3, 0)], [1, 1])
        self.assertEqual([lowest_above(tree, 2, 1), lowest_above(tree, 2, 0)], [1, 1])

    def test_a_place_is_above_itself(self):
        for row in [*short_rows(), *long_rows().values()]:
            tree = tree_of(row)
            for place in range(len(row)):
                self.assertEqual(lowest_above(tree, place, place), place)

    def test_any_two_places_of_short_rows(self):
        for row in short_rows():
            self.check(row, range(len(row)))

    def test_any_two_places_of_rows_of_middle_length(self):
        for many, reach in ((40, 2), (61, 10 ** 12), (75, 9)):
            self.check(chance_row(many, many, -reach, reach), range(many))

    def test_many_places_of_rows_of_300(self):
        for name, row in long_rows().items():
            with self.subTest(name):
                self.check(row, [*range(0, 300, 7), 1, 149, 150, 151, 298, 299])

    def test_somewhat_beyond_the_limits(self):
        for row in (list(range(1500)), list(range(1500, 0, -1))):
            tree = tree_of(row)
            self.assertEqual(lowest_above(tree, 0, 1499), row.index(min(row)))
            self.assertEqual(lowest_above(tree, 700, 20), 20 if row[0] == 0 else 700)
