"""Promises 24 to 26: rows that grow at their end and shrink there."""

import inspect
import unittest
from itertools import product

from stretchleast.errors import NoMany, NoNumber
from stretchleast.growing import Growing
from tests.helper import chance, chance_row, long_rows, no_whole_numbers, short_rows, walked_totals

TOLD = ("numbers", "many", "leasts", "greatests", "spreads", "last_leasts", "last_greatests", "last_spreads")


def asked(growing):
    return [getattr(growing, name)() for name in TOLD]


def walked(row):
    """What a growing row is to tell while it has the numbers of a row, added stretch by stretch."""
    leasts, greatests, last_leasts, last_greatests = walked_totals(row)
    return [list(row), len(row), leasts, greatests, greatests - leasts, last_leasts, last_greatests,
            last_greatests - last_leasts]


def grown(row):
    growing = Growing()
    for number in row:
        growing.put(number)
    return growing


class Interface(unittest.TestCase):
    def test_arguments_are_named_as_in_the_document(self):
        self.assertEqual(list(inspect.signature(Growing).parameters), [])
        self.assertEqual(list(inspect.signature(Growing.put).parameters), ["self", "number"])
        self.assertEqual(list(inspect.signature(Growing.take).parameters), ["self", "many"])
        for name in TOLD:
            self.assertEqual(list(inspect.signature(getattr(Growing, name)).parameters), ["self"])

    def test_each_method_stands_in_the_class_itself(self):
        for name in ("put", "take", *TOLD):
            self.assertIn(name, vars(Growing))

    def test_put_and_take_tell_none(self):
        growing = Growing()
        self.assertIsNone(growing.put(3))
        self.assertIsNone(growing.take(0))
        self.assertIsNone(growing.take(1))
        self.assertIsNone(growing.take(0))


class Rows(unittest.TestCase):
    def check(self, growing, row):
        told = asked(growing)
        if told != walked(row):
            self.fail(f"{row}: {told}, not {walked(row)}")
        self.assertIs(type(told[0]), list)
        self.assertEqual([type(number) for number in told[1:]], [int] * 7)

    def test_made_empty(self):
        self.assertEqual(asked(Growing()), [[], 0, 0, 0, 0, 0, 0, 0])
        self.check(Growing(), [])

    def test_one_number(self):
        for number in (0, -3, 10 ** 12, -10 ** 12):
            self.assertEqual(asked(grown([number])), [[number], 1, number, number, 0, number, number, 0])

    def test_written_out(self):
        # The stretches that end at the last number: [2], [8, 2], [2, 8, 2], [5, 2, 8, 2].
        self.assertEqual(asked(grown([5, 2, 8, 2])), [[5, 2, 8, 2], 4, 29, 62, 33, 8, 26, 18])
        self.assertEqual(asked(grown([-3, -1])), [[-3, -1], 2, -7, -5, 2, -4, -2, 2])

    def test_short_rows_by_a_walk(self):
        for row in short_rows():
            growing = Growing()
            for many, number in enumerate(row):
                self.check(growing, row[:many])
                growing.put(number)
            for many in reversed(range(len(row) + 1)):
                self.check(growing, row[:many])
                growing.take(1 if many else 0)

    def test_all_rows_of_a_few_deeds(self):
        for deeds in product(("put -1", "put 0", "put 2", "take 1", "take 2"), repeat=5):
            growing, row = Growing(), []
            for deed in deeds:
                word, number = deed.split()
                if word == "put":
                    growing.put(int(number))
                    row.append(int(number))
                elif int(number) <= len(row):
                    growing.take(int(number))
                    row = row[:len(row) - int(number)]
                else:
                    with self.assertRaises(NoMany):
                        growing.take(int(number))
            self.check(growing, row)

    def test_any_many_are_taken(self):
        row = chance_row(4, 12, -5, 5)
        for many in range(13):
            growing = grown(row)
            growing.take(many)
            self.check(growing, row[:12 - many])
            # What is put now stands where the taken ones stood.
            growing.put(-2)
            self.check(growing, [*row[:12 - many], -2])

    def test_many_deeds_by_turns(self):
        for seed, reach in ((1, 2), (2, 10 ** 12), (3, 30)):
            numbers = chance(seed)
            growing, row = Growing(), []
            for _ in range(400):
                if next(numbers) % 3 and len(row) < 40:
                    number = next(numbers) % (2 * reach + 1) - reach
                    growing.put(number)
                    row.append(number)
                else:
                    many = next(numbers) % (min(len(row), 7) + 1)
                    growing.take(many)
                    row = row[:len(row) - many]
                self.check(growing, row)

    def test_long_rows_grow_to_300_and_shrink_to_none(self):
        for name, row in long_rows().items():
            with self.subTest(name):
                growing = Growing()
                for many, number in enumerate(row):
                    if many % 50 == 7:
                        self.check(growing, row[:many])
                    growing.put(number)
                self.check(growing, row)
                for many in (299, 298, 200, 111, 110, 3, 0):
                    growing.take(growing.many() - many)
                    self.check(growing, row[:many])
                growing.put(5)
                self.check(growing, [5])

    def test_long_rows_grow_and_shrink_by_turns(self):
        row = long_rows()["far apart"]
        growing, now = Growing(), []
        # Each turn puts fifty numbers and takes twenty again, until there are 300.
        for begin in range(0, 300, 50):
            for number in row[begin:begin + 50]:
                growing.put(number)
                now.append(number)
            growing.take(20)
            now = now[:len(now) - 20]
            self.check(growing, now)
        for number in range(300 - len(now)):
            growing.put(number)
            now.append(number)
        self.assertEqual(growing.many(), 300)
        self.check(growing, now)
        growing.take(300)
        self.check(growing, [])

    def test_taken_one_by_one_from_300(self):
        row = long_rows()["few unlike"]
        growing = grown(row)
        for many in reversed(range(300)):
            growing.take(1)
            self.assertEqual(growing.many(), many)
            if many % 60 == 0:
                self.check(growing, row[:many])
        self.assertEqual(asked(growing), [[], 0, 0, 0, 0, 0, 0, 0])

    def test_asking_changes_nothing(self):
        growing = grown([3, 1, 2])
        for _ in range(3):
            self.check(growing, [3, 1, 2])

    def test_somewhat_beyond_the_limits(self):
        row = chance_row(5, 500, -10 ** 15, 10 ** 15)
        growing = grown(row)
        self.check(growing, row)
        growing.take(450)
        self.check(growing, row[:50])

    def test_the_told_list_is_changed_and_asked_again(self):
        for row in ([], [4], [3, 1, 2], [7, 7, 7]):
            growing = grown(row)
            told = growing.numbers()
            told.append(-9)
            told.reverse()
            self.check(growing, row)
            told.clear()
            self.check(growing, row)
            self.assertIsNot(growing.numbers(), growing.numbers())

    def test_a_list_that_was_told_stays_as_it_was(self):
        growing = grown([3, 1, 2])
        told = growing.numbers()
        growing.put(7)
        self.assertEqual(told, [3, 1, 2])
        growing.take(4)
        self.assertEqual(told, [3, 1, 2])

    def test_two_growing_rows_apart(self):
        one, other = Growing(), Growing()
        one.put(4)
        self.check(other, [])
        other.put(-1)
        other.put(6)
        self.check(one, [4])
        one.take(1)
        self.check(other, [-1, 6])
        other.take(1)
        one.put(9)
        self.check(one, [9])
        self.check(other, [-1])
        self.check(Growing(), [])


class Refusals(unittest.TestCase):
    def rows(self):
        return ([], [4], [3, 1, 2], [0] * 5)

    def refused(self, error, deed, thing):
        with self.assertRaises(error) as caught:
            deed(thing)
        self.assertIs(type(caught.exception), error)
        self.assertIsInstance(str(caught.exception), str)

    def test_put_of_what_is_no_whole_number(self):
        for name, wrong in no_whole_numbers().items():
            for row in self.rows():
                with self.subTest(name, row=row):
                    growing = grown(row)
                    self.refused(NoNumber, growing.put, wrong)
                    self.assertEqual(asked(growing), walked(row))

    def test_take_of_what_is_no_whole_number(self):
        for name, wrong in no_whole_numbers().items():
            for row in self.rows():
                with self.subTest(name, row=row):
                    growing = grown(row)
                    self.refused(NoMany, growing.take, wrong)
                    self.assertEqual(asked(growing), walked(row))

    def test_take_of_too_many_or_of_fewer_than_none(self):
        for row in [*self.rows(), list(range(300))]:
            growing = grown(row)
            wanted = walked(row)
            # 10 ** 6000 has more figures than Python writes out.
            for far in (10 ** 30, 10 ** 6000, len(row) + 1, len(row) + 2):
                self.refused(NoMany, growing.take, far)
                self.refused(NoMany, growing.take, -far)
            self.refused(NoMany, growing.take, -1)
            self.assertEqual(asked(growing), wanted)

    def test_truths_are_no_numbers(self):
        growing = grown([1, 0])
        for truth in (True, False):
            self.refused(NoNumber, growing.put, truth)
            self.refused(NoMany, growing.take, truth)
        self.assertEqual(growing.numbers(), [1, 0])

    def test_a_refused_deed_between_others(self):
        growing = Growing()
        growing.put(3)
        self.refused(NoMany, growing.take, 2)
        growing.put(1)
        self.refused(NoNumber, growing.put, "2")
        growing.put(2)
        self.refused(NoMany, growing.take, 4)
        self.assertEqual(asked(growing), walked([3, 1, 2]))
        growing.take(3)
        self.refused(NoMany, growing.take, 1)
        self.assertEqual(asked(growing), walked([]))
