"""Promise 27: rows written as texts, and read back."""

import inspect
import re
import unittest
from itertools import product

from stretchleast.errors import NoText
from stretchleast.notes import read_row, show_row
from tests.helper import chance_row, long_rows, no_whole_numbers, short_rows

NUMBER = "(0|-?[1-9][0-9]{0,12})"
GOOD_TEXT = re.compile(f"-|{NUMBER}( {NUMBER})*")
MOST = 9999999999999


class Interface(unittest.TestCase):
    def test_arguments_are_named_as_in_the_document(self):
        self.assertEqual(list(inspect.signature(show_row).parameters), ["row"])
        self.assertEqual(list(inspect.signature(read_row).parameters), ["text"])


class Texts(unittest.TestCase):
    def check(self, row, text):
        told = show_row(row)
        self.assertEqual(told, text)
        self.assertIs(type(told), str)
        back = read_row(text)
        self.assertEqual(back, row)
        self.assertIs(type(back), list)
        self.assertTrue(all(type(number) is int for number in back))

    def test_row_of_none(self):
        self.check([], "-")

    def test_word_for_word(self):
        self.check([0], "0")
        self.check([7], "7")
        self.check([-7], "-7")
        self.check([5, 2, 8, 2], "5 2 8 2")
        self.check([-1, 0, 10, -100], "-1 0 10 -100")
        self.check([0, 0, 0], "0 0 0")
        self.check([-1], "-1")

    def test_to_the_limits(self):
        self.check([10 ** 12, -10 ** 12], "1000000000000 -1000000000000")
        self.check([10 ** 12 - 1, 1 - 10 ** 12], "999999999999 -999999999999")

    def test_thirteen_figures(self):
        self.check([MOST, -MOST], "9999999999999 -9999999999999")
        for number in (MOST, -MOST, 1234567890123, -1234567890123, 2 * 10 ** 12):
            self.check([number], str(number))
            self.check([1, number, -1], f"1 {number} -1")

    def test_every_number_of_figures(self):
        for figures in range(1, 14):
            for number in (10 ** (figures - 1), 10 ** figures - 1):
                self.check([number, -number], f"{number} -{number}")

    def test_short_rows(self):
        for row in short_rows():
            self.check(row, " ".join([str(number) for number in row]) or "-")

    def test_rows_of_300(self):
        for name, row in long_rows().items():
            with self.subTest(name):
                self.check(row, " ".join([str(number) for number in row]))

    def test_rows_of_more_than_300(self):
        for many in (301, 302, 700, 3000):
            self.check([many] * many, " ".join([str(many)] * many))
            row = chance_row(many, many, -10 ** 12, 10 ** 12)
            self.assertEqual(read_row(show_row(row)), row)

    def test_somewhat_beyond_the_limits_is_written(self):
        self.assertEqual(show_row([10 ** 15, -10 ** 15]), "1" + "0" * 15 + " -1" + "0" * 15)

    def test_each_told_row_is_a_new_one(self):
        for text in ("-", "3 1 2"):
            told = read_row(text)
            before = list(told)
            told.append(4)
            self.assertEqual(read_row(text), before)
            self.assertIsNot(read_row(text), read_row(text))


class Refusals(unittest.TestCase):
    def refused(self, text):
        with self.assertRaises(NoText) as caught:
            read_row(text)
        self.assertIs(type(caught.exception), NoText)
        self.assertIsInstance(str(caught.exception), str)

    def test_nearly_texts_of_rows(self):
        texts = {
            "nothing at all": "",
            "a blank": " ",
            "two blanks": "1  2",
            "a blank ahead": " 1",
            "a blank behind": "1 ",
            "a blank on both sides": " 1 2 ",
            "a nought ahead": "01",
            "noughts alone": "00",
            "a nought behind the minus": "-01",
            "noughts ahead of thirteen figures": "0" + "9" * 13,
            "minus nought": "-0",
            "a plus": "+1",
            "a plus ahead of nought": "+0",
            "fourteen figures": "1" + "0" * 13,
            "fourteen figures below nought": "-1" + "0" * 13,
            "very many figures": "1" * 5999,
            "a line feed behind": "1\n",
            "a line feed ahead": "\n1",
            "a line feed between": "1\n2",
            "a line feed alone": "\n",
            "a line feed behind a minus": "-\n",
            "a point": "1.0",
            "a point behind": "1.",
            "a letter amid": "1a2",
            "a letter behind": "12x",
            "a letter alone": "a",
            "an e": "1e3",
            "an x": "0x1",
            "an underscore": "1_000",
            "a comma": "1,2",
            "two minuses": "--1",
            "two minuses alone": "--",
            "a minus behind": "1-",
            "a minus parted": "- 1",
            "a row of none behind a number": "1 -",
            "a row of none ahead of a number": "- 1 2",
            "a row of none twice": "- -",
            "a row of none with a blank": "- ",
            "a row of none behind a blank": " -",
            "a list as Python writes it": "[1, 2]",
            "a word": "None",
            "a tilde": "~",
            "figures of another script": "\u0661\u0662",
            "a raised figure": "1\u00b2",
        }
        for name, text in texts.items():
            with self.subTest(name):
                self.assertIsNone(GOOD_TEXT.fullmatch(text))
                self.refused(text)
                # Also beside good numbers.
                for beside in (f"3 {text}", f"{text} 3", f"3 {text} 3"):
                    if not GOOD_TEXT.fullmatch(beside):
                        self.refused(beside)

    def test_all_short_texts_of_a_few_signs(self):
        for many in range(7):
            for signs in product("01- \n", repeat=many):
                text = "".join(signs)
                if GOOD_TEXT.fullmatch(text):
                    self.assertEqual(show_row(read_row(text)), text)
                else:
                    self.refused(text)

    def test_each_sign_amid_figures(self):
        for sign in ["\n", *map(chr, range(32, 127))]:
            for text in (f"1{sign}2", f"{sign}2", f"1{sign}", sign):
                if GOOD_TEXT.fullmatch(text):
                    self.assertEqual(show_row(read_row(text)), text)
                else:
                    self.refused(text)

    def test_one_wrong_word_at_any_place_of_a_long_row(self):
        words = [str(number) for number in range(300)]
        for at in (0, 1, 150, 298, 299):
            for wrong in ("", "01", "-0", "-", "+1", "1" * 14, "a"):
                self.refused(" ".join([*words[:at], wrong, *words[at + 1:]]))

    def test_things_that_are_no_texts(self):
        others = no_whole_numbers()
        del others["an empty text"], others["a text"]
        for name, wrong in {**others, "a number": 5, "a list of texts": ["1", "2"]}.items():
            with self.subTest(name):
                self.refused(wrong)
