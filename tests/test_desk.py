"""Promise 28: the desk, its rows of words, its answers and its refusals."""

import inspect
import re
import unittest
from itertools import product

from stretchleast.desk import Desk
from stretchleast.errors import NoCommand, NoMany, NoPlace, NoStretch, NoText, SpanError
from tests.helper import (chance, chance_row, long_rows, no_whole_numbers, ordered, searched, short_rows, stretches,
                          walked_sums, walked_totals)

COUNT = "(0|[1-9][0-9]{0,12})"
NUMBER = "(0|-?[1-9][0-9]{0,12})"
KNOWN = re.compile(f"put {NUMBER}|take {COUNT}|show|sums|last|part {COUNT} {COUNT}|least {COUNT} {COUNT}|at {COUNT}|"
                   f"within {NUMBER}|worth")
ASKED = ("show", "sums", "last", "worth", "within 0", "within 3")


def text_of(row):
    return " ".join([str(number) for number in row]) or "-"


def desk_of(row):
    desk = Desk()
    assert desk.say(f"row {text_of(row)}") == "ok"
    return desk


def asked(desk):
    return [desk.say(words) for words in ASKED]


def walked(row):
    """What the desk is to answer to ASKED while it keeps a row, found stretch by stretch."""
    leasts, greatests, last_leasts, last_greatests = walked_totals(row)
    same = three = 0
    best = None
    for (begin, end), (least, greatest, _, _) in searched(row).items():
        same += greatest == least
        three += greatest - least <= 3
        if best is None or least * (end - begin) > best[0]:
            best = (least * (end - begin), begin, end)
    return [text_of(row), f"{leasts} {greatests} {greatests - leasts}",
            f"{last_leasts} {last_greatests} {last_greatests - last_leasts}",
            text_of(best) if best else "none", str(same), str(three)]


class Interface(unittest.TestCase):
    def test_arguments_are_named_as_in_the_document(self):
        self.assertEqual(list(inspect.signature(Desk).parameters), [])
        self.assertEqual(list(inspect.signature(Desk.say).parameters), ["self", "words"])
        self.assertIn("say", vars(Desk))


class Answers(unittest.TestCase):
    def check(self, desk, row):
        told = asked(desk)
        self.assertEqual(told, walked(row), row)
        self.assertTrue(all(type(answer) is str for answer in told))

    def test_an_empty_desk(self):
        self.assertEqual(asked(Desk()), ["-", "0 0 0", "0 0 0", "none", "0", "0"])
        self.check(Desk(), [])

    def test_word_for_word(self):
        desk = Desk()
        for words, answer in (
            ("row 5 2 8 2", "ok"),
            ("show", "5 2 8 2"),
            ("sums", "29 62 33"),
            ("last", "8 26 18"),
            ("part 1 4", "18 36 18"),
            ("part 0 4", "29 62 33"),
            ("part 2 3", "8 8 0"),
            ("least 0 4", "2 1"),
            ("least 2 4", "2 3"),
            ("least 2 3", "8 2"),
            ("at 0", "2 0 2"),
            ("at 6", "2 2 4"),
            ("at 9", "8 2 3"),
            ("within 3", "5"),
            ("within 0", "4"),
            ("within -1", "0"),
            ("within 9999999999999", "10"),
            ("within -9999999999999", "0"),
            ("worth", "8 0 4"),
            ("put -7", "ok"),
            ("show", "5 2 8 2 -7"),
            ("least 0 5", "-7 4"),
            ("last", "-35 19 54"),
            ("take 2", "ok"),
            ("show", "5 2 8"),
            ("take 0", "ok"),
            ("show", "5 2 8"),
            ("put 0", "ok"),
            ("show", "5 2 8 0"),
            ("take 4", "ok"),
            ("show", "-"),
            ("take 0", "ok"),
            ("worth", "none"),
            ("put 4", "ok"),
            ("worth", "4 0 1"),
            ("at 0", "4 0 1"),
            ("row -", "ok"),
            ("show", "-"),
            ("sums", "0 0 0"),
            ("last", "0 0 0"),
            ("within 5", "0"),
            ("row -3", "ok"),
            ("worth", "-3 0 1"),
            ("sums", "-3 -3 0"),
        ):
            with self.subTest(words):
                told = desk.say(words)
                self.assertEqual(told, answer)
                self.assertIs(type(told), str)

    def test_short_rows_by_a_walk(self):
        for row in short_rows():
            desk = desk_of(row)
            self.check(desk, row)
            found, sums = searched(row), walked_sums(row)
            for begin, end in stretches(row):
                leasts, greatests = sums[begin, end]
                least, _, place, _ = found[begin, end]
                self.assertEqual(desk.say(f"part {begin} {end}"), f"{leasts} {greatests} {greatests - leasts}")
                self.assertEqual(desk.say(f"least {begin} {end}"), f"{least} {place}")
            for place, (least, begin, end) in enumerate(ordered(row)):
                self.assertEqual(desk.say(f"at {place}"), f"{least} {begin} {end}")

    def test_rows_of_300_by_a_walk(self):
        for name, row in long_rows().items():
            with self.subTest(name):
                desk = desk_of(row)
                self.check(desk, row)
                found, sums, order = searched(row), walked_sums(row), ordered(row)
                for begin, end in list(stretches(row))[::2999] + [(0, 300)]:
                    leasts, greatests = sums[begin, end]
                    self.assertEqual(desk.say(f"part {begin} {end}"), f"{leasts} {greatests} {greatests - leasts}")
                    self.assertEqual(desk.say(f"least {begin} {end}"), f"{found[begin, end][0]} {found[begin, end][2]}")
                for place in [*range(0, 45150, 2999), 45149]:
                    self.assertEqual(desk.say(f"at {place}"), text_of(order[place]))

    def test_within_by_a_walk(self):
        for row in [chance_row(seed, 9, -4, 4) for seed in range(20)]:
            desk = desk_of(row)
            spreads = [greatest - least for least, greatest, _, _ in searched(row).values()]
            for number in range(-2, 11):
                self.assertEqual(desk.say(f"within {number}"), str(sum(spread <= number for spread in spreads)))

    def test_many_deeds_by_turns(self):
        numbers = chance(6)
        desk, row = Desk(), []
        for _ in range(300):
            turn = next(numbers) % 7
            if turn < 4:
                number = next(numbers) % 21 - 10
                self.assertEqual(desk.say(f"put {number}"), "ok")
                row.append(number)
            elif turn < 6:
                many = next(numbers) % (min(len(row), 4) + 1)
                self.assertEqual(desk.say(f"take {many}"), "ok")
                row = row[:len(row) - many]
            else:
                row = chance_row(next(numbers), next(numbers) % 9, -10 ** 12, 10 ** 12)
                self.assertEqual(desk.say(f"row {text_of(row)}"), "ok")
            self.check(desk, row)

    def test_a_new_row_takes_the_place_of_the_one_before(self):
        desk = desk_of([1, 2, 3])
        desk.say("put 4")
        self.assertEqual(desk.say("row 9 8"), "ok")
        self.check(desk, [9, 8])
        desk.say("put 7")
        self.check(desk, [9, 8, 7])

    def test_thirteen_figures(self):
        for number in (10 ** 12, -10 ** 12, 9999999999999, -9999999999999):
            desk = Desk()
            desk.say(f"put {number}")
            desk.say(f"put {number}")
            self.assertEqual(desk.say("show"), f"{number} {number}")
            self.assertEqual(desk.say("sums"), f"{3 * number} {3 * number} 0")
            self.check(desk_of([number, 0, number]), [number, 0, number])

    def test_asking_changes_nothing(self):
        desk = desk_of([3, 1, 2])
        for _ in range(3):
            self.check(desk, [3, 1, 2])
            desk.say("part 0 2")
            desk.say("least 0 2")
            desk.say("at 1")

    def test_two_desks_apart(self):
        one, other = Desk(), Desk()
        one.say("row 1 2 3")
        self.check(other, [])
        other.say("put 9")
        self.check(one, [1, 2, 3])
        one.say("take 2")
        self.check(other, [9])
        other.say("row 5 5")
        one.say("put 4")
        self.check(one, [1, 4])
        self.check(other, [5, 5])
        self.check(Desk(), [])


class Refusals(unittest.TestCase):
    def refused(self, error, desk, words):
        with self.assertRaises(error) as caught:
            desk.say(words)
        self.assertIs(type(caught.exception), error)
        self.assertIsInstance(str(caught.exception), str)

    def refused_alike(self, error, row, every):
        """Refuse each row of words at a desk that keeps the row, and leave the row as it was."""
        desk, wanted = desk_of(row), walked(row)
        for words in every:
            with self.subTest(words=words):
                self.refused(error, desk, words)
                self.assertEqual(asked(desk), wanted)

    def test_things_that_are_no_texts(self):
        others = no_whole_numbers()
        del others["an empty text"], others["a text"]
        others.update({"a number": 5, "a list of words": ["put", "1"], "words as a tuple": ("show",), "bytes": b"show"})
        for row in ([], [3, 1, 2]):
            desk = desk_of(row)
            for name, wrong in others.items():
                with self.subTest(name):
                    self.refused(NoCommand, desk, wrong)
            self.assertEqual(asked(desk), walked(row))

    def test_words_that_the_desk_does_not_know(self):
        unknown = ["", " ", "\n", "ok", "none", "help", "row", "rows", "rows 1", "row\n1", "sum", "puts 1", "1", "-",
                   "1 2", "show\n", "\nshow", "show -", "show 0", "sums 0", "last 1", "worth 1", "put", "take", "part",
                   "least", "at", "within", "part 0", "least 0", "part 0 1 2", "least 0 1 2", "at 0 1", "within 1 2",
                   "put 1 2", "take 1 2", "take 1 1", "many", "numbers", "many 3"]
        self.refused_alike(NoCommand, [3, 1, 2], unknown)
        self.refused_alike(NoCommand, [], unknown)

    def test_great_letters(self):
        known = ("show", "sums", "last", "worth", "put 1", "take 1", "part 0 1", "least 0 1", "at 0", "within 1",
                 "row 1", "row -")
        self.refused_alike(NoCommand, [3, 1, 2], [words.upper() for words in known])
        self.refused_alike(NoCommand, [3, 1, 2], ["Show", "Put 1", "Row 1", "rOW 1", "shoW"])

    def test_blanks(self):
        for words in ("show", "sums", "last", "worth", "put 1", "take 1", "part 0 1", "least 0 1", "at 0", "within 1"):
            wrongs = [f" {words}", f"{words} ", words + "\n", words.replace(" ", "\n"), words.replace(" ", "\t"),
                      words.replace(" ", ""), words.replace(" ", "  "), f"{words}  "]
            self.refused_alike(NoCommand, [3, 1, 2], [wrong for wrong in wrongs if wrong != words])
        self.refused_alike(NoCommand, [3, 1, 2], [" row 1", "\trow 1", "row\t1", "row1", "row-"])

    def test_numbers_that_are_written_otherwise(self):
        wrongs = ("01", "00", "007", "-0", "-00", "-01", "+1", "+0", "--1", "-", "1-", "1" * 14, "-" + "1" * 14,
                  "1" + "0" * 13, "0" * 14, "1.0", "1a", "a", "1_0", "1\n", "\n1", "0x1", "1,", "None", "True",
                  "1" * 5000)
        for wrong in wrongs:
            self.refused_alike(NoCommand, [3, 1, 2], [f"put {wrong}", f"take {wrong}", f"at {wrong}", f"within {wrong}",
                                                      f"part {wrong} 2", f"part 0 {wrong}", f"least {wrong} 2",
                                                      f"least 0 {wrong}"])

    def test_a_minus_where_none_may_stand(self):
        for number in (-1, -2, -9999999999999):
            self.refused_alike(NoCommand, [3, 1, 2], [f"take {number}", f"at {number}", f"part {number} 2",
                                                      f"part 0 {number}", f"least {number} 2", f"least 0 {number}"])

    def test_all_rows_of_a_few_words(self):
        words = ("put", "take", "show", "sums", "last", "part", "least", "at", "within", "worth", "rows", "0", "1",
                 "-1", "", "01", "-0", "+1", "PUT", "9" * 13, "9" * 14)
        desk = Desk()
        for many in range(4):
            for chosen in product(words, repeat=many):
                self.known_or_refused(desk, " ".join(chosen))

    def test_all_rows_of_four_words_behind_some(self):
        desk = Desk()
        for first in ("show", "put", "part", "least", "at"):
            for chosen in product(("0", "1", "", "show"), repeat=3):
                self.known_or_refused(desk, " ".join([first, *chosen]))

    def known_or_refused(self, desk, words):
        try:
            desk.say(words)
        except NoCommand:
            self.assertIsNone(KNOWN.fullmatch(words), words)
        except (NoMany, NoPlace, NoStretch):
            self.assertTrue(KNOWN.fullmatch(words), words)
        else:
            self.assertTrue(KNOWN.fullmatch(words), words)

    def test_texts_of_no_row(self):
        wrongs = ("", " ", " 1", "1 ", "1  2", "01", "00", "-0", "+1", "1\n", "\n", "- ", " -", "--", "1 -", "a", "1.0",
                  "1" * 14, "-" + "1" * 14, "row 1", "show", "None", "[1, 2]", "1,2")
        for row in ([], [3, 1, 2]):
            self.refused_alike(NoText, row, [f"row {wrong}" for wrong in wrongs])

    def test_rows_of_more_than_300_numbers(self):
        for many in (301, 302, 600, 2900):
            self.refused_alike(NoText, [3, 1, 2], ["row " + " ".join(["7"] * many)])
        for many in (299, 300):
            desk = Desk()
            self.assertEqual(desk.say("row " + " ".join(["7"] * many)), "ok")
            self.assertEqual(desk.say("show"), " ".join(["7"] * many))

    def test_a_number_put_to_300(self):
        row = list(range(300))
        self.refused_alike(NoCommand, row, ["put 1", "put 0", "put -5", "put 01"])
        desk = desk_of(row)
        self.refused(NoCommand, desk, "put 1")
        self.assertEqual(desk.say("take 1"), "ok")
        self.assertEqual(desk.say("put 5"), "ok")
        self.refused(NoCommand, desk, "put 6")
        self.assertEqual(desk.say("show"), text_of([*range(299), 5]))
        # All else is answered as ever.
        self.assertEqual(desk.say("within 0"), "300")
        self.assertEqual(desk.say("row 1"), "ok")
        self.assertEqual(desk.say("put 2"), "ok")

    def test_put_up_to_300(self):
        desk = Desk()
        for number in range(300):
            self.assertEqual(desk.say(f"put {number}"), "ok")
        self.refused(NoCommand, desk, "put 300")
        self.assertEqual(desk.say("show"), text_of(range(300)))

    def test_too_many_to_take(self):
        self.refused_alike(NoMany, [3, 1, 2], ["take 4", "take 5", "take 300", "take 9999999999999"])
        self.refused_alike(NoMany, [], ["take 1", "take 2"])
        self.refused_alike(NoMany, list(range(300)), ["take 301"])

    def test_what_is_no_stretch(self):
        for first in ("part", "least"):
            self.refused_alike(NoStretch, [3, 1, 2], [f"{first} {begin} {end}" for begin in range(6) for end in range(6)
                                                      if not begin < end <= 3])
            self.refused_alike(NoStretch, [3, 1, 2], [f"{first} 0 9999999999999", f"{first} 9999999999999 1"])
            self.refused_alike(NoStretch, [], [f"{first} 0 0", f"{first} 0 1", f"{first} 1 0"])

    def test_what_is_no_place(self):
        self.refused_alike(NoPlace, [3, 1, 2], ["at 6", "at 7", "at 300", "at 9999999999999"])
        self.refused_alike(NoPlace, [], ["at 0", "at 1"])
        self.refused_alike(NoPlace, list(range(300)), ["at 45150"])

    def test_no_command_comes_first(self):
        # Of two faults the one of the words is told.
        self.refused_alike(NoCommand, [3, 1, 2], ["part 9 01", "part 9 -1", "least -1 0", "least 9 a", "part 9 9 9"])
        self.refused_alike(NoCommand, [], ["part 0", "at -1", "take -1", "take 01", "at 00"])

    def test_refused_by_turns(self):
        desk = Desk()
        desk.say("put 3")
        for words in ("take 2", "put x", "row 1  2", "at 1", "part 0 2", "show all"):
            with self.assertRaises(SpanError):
                desk.say(words)
        desk.say("put 1")
        self.assertEqual(asked(desk), walked([3, 1]))
