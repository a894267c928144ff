"""Promise 2: sums, parts, counts, places, spreads, worths, trees, papers, growing rows and the desk tell the same."""

import unittest

from stretchleast.counted import by_leasts, many_from, many_to, many_with
from stretchleast.desk import Desk
from stretchleast.growing import Growing
from stretchleast.manieth import place_of, stretch_at
from stretchleast.notes import read_row, show_row
from stretchleast.papers import paper_of, shows
from stretchleast.parts import Ready
from stretchleast.reach import reaches
from stretchleast.rows import greatest_of, least_of, least_place, spread_of
from stretchleast.spreads import longest_within, many_within
from stretchleast.sums import sum_of_greatests, sum_of_leasts, sum_of_spreads
from stretchleast.trees import lowest_above, tree_of
from stretchleast.worth import most_worth, worth_of
from tests.helper import long_rows, short_rows, stretches


def parted(*numbers):
    return " ".join([str(number) for number in numbers])


class Whole(unittest.TestCase):
    def rows(self):
        return [*short_rows(), *long_rows().values()]

    def test_sums_are_those_of_the_whole_part(self):
        for row in self.rows():
            if row:
                ready = Ready(row)
                whole = (0, len(row))
                self.assertEqual(sum_of_leasts(row), ready.leasts(*whole))
                self.assertEqual(sum_of_greatests(row), ready.greatests(*whole))
                self.assertEqual(sum_of_spreads(row), ready.spreads(*whole))

    def test_sums_of_a_part_are_those_of_a_row_of_its_numbers(self):
        for row in short_rows():
            ready = Ready(row)
            for begin, end in stretches(row):
                self.assertEqual(ready.leasts(begin, end), sum_of_leasts(row[begin:end]))
                self.assertEqual(ready.greatests(begin, end), sum_of_greatests(row[begin:end]))
                self.assertEqual(ready.spreads(begin, end), sum_of_spreads(row[begin:end]))

    def test_parts_are_told_as_stretches_are(self):
        for row in short_rows():
            ready = Ready(row)
            for begin, end in stretches(row):
                self.assertEqual(ready.least(begin, end), least_of(row, begin, end))
                self.assertEqual(ready.greatest(begin, end), greatest_of(row, begin, end))
                self.assertEqual(ready.first_least(begin, end), least_place(row, begin, end))

    def test_sums_of_single_stretches(self):
        for row in short_rows():
            every = list(stretches(row))
            self.assertEqual(sum_of_leasts(row), sum(least_of(row, *stretch) for stretch in every))
            self.assertEqual(sum_of_greatests(row), sum(greatest_of(row, *stretch) for stretch in every))
            self.assertEqual(sum_of_spreads(row), sum(spread_of(row, *stretch) for stretch in every))

    def test_counts_add_up(self):
        for row in self.rows():
            counts = by_leasts(row)
            every = len(row) * (len(row) + 1) // 2
            self.assertEqual(sum(many for _, many in counts), every)
            self.assertEqual(sum(least * many for least, many in counts), sum_of_leasts(row))
            for least, many in counts[:5] + counts[-5:]:
                self.assertEqual(many_with(row, least), many)
                self.assertEqual(many_from(row, least) + many_to(row, least), every + many)

    def test_reaches_add_up(self):
        for row in self.rows():
            shown = sum(row[place] * (place - begin + 1) * (end - place)
                        for place, (begin, end) in enumerate(reaches(row)))
            self.assertEqual(shown, sum_of_leasts(row))

    def test_places_begin_where_the_lesser_leasts_end(self):
        for row in self.rows():
            at = 0
            for least, many in by_leasts(row)[:20]:
                self.assertEqual(many_to(row, least - 1), at)
                self.assertEqual(stretch_at(row, at)[0], least)
                self.assertEqual(stretch_at(row, at + many - 1)[0], least)
                at += many

    def test_places_tell_all_stretches(self):
        for row in short_rows():
            every = list(stretches(row))
            told = [stretch_at(row, place) for place in range(len(every))]
            self.assertEqual(sum(least for least, _, _ in told), sum_of_leasts(row))
            self.assertEqual(sorted((begin, end) for _, begin, end in told), every)
            self.assertTrue(all(least_of(row, begin, end) == least for least, begin, end in told))
            self.assertEqual(sorted(place_of(row, *stretch) for stretch in every), list(range(len(every))))

    def test_small_spreads_add_up(self):
        for row in short_rows():
            spreads = sorted({spread_of(row, *stretch) for stretch in stretches(row)})
            many, total = 0, 0
            for spread in spreads:
                more = many_within(row, spread) - many
                many, total = many + more, total + more * spread
                self.assertLessEqual(spread_of(row, *longest_within(row, spread)), spread)
            self.assertEqual(total, sum_of_spreads(row))
            self.assertEqual(many, len(row) * (len(row) + 1) // 2)

    def test_the_greatest_spread_takes_in_all_stretches(self):
        for row in self.rows():
            if row:
                widest = spread_of(row, 0, len(row))
                self.assertEqual(many_within(row, widest), many_from(row, min(row)))
                self.assertEqual(longest_within(row, widest), (0, len(row)))

    def test_no_stretch_is_worth_more_than_the_most(self):
        for row in short_rows():
            if row:
                worth, begin, end = most_worth(row)
                self.assertEqual(worth_of(row, begin, end), worth)
                self.assertEqual(max(worth_of(row, *stretch) for stretch in stretches(row)), worth)
            for begin, end in stretches(row):
                self.assertEqual(worth_of(row, begin, end), Ready(row).least(begin, end) * (end - begin))

    def test_the_tree_tells_the_leasts_of_all_stretches(self):
        for row in short_rows():
            tree, ready = tree_of(row), Ready(row)
            places = [lowest_above(tree, begin, end - 1) for begin, end in stretches(row)]
            self.assertEqual(places, [least_place(row, *stretch) for stretch in stretches(row)])
            self.assertEqual(places, [ready.first_least(*stretch) for stretch in stretches(row)])
            self.assertEqual(sum(row[place] for place in places), sum_of_leasts(row))
            for least, many in by_leasts(row):
                self.assertEqual(sum(row[place] == least for place in places), many)

    def test_the_reaches_are_what_stands_below_in_the_tree(self):
        for row in self.rows():
            tree = tree_of(row)
            begins, ends = list(range(len(row))), list(range(1, len(row) + 1))
            for place in range(len(row)):
                above = tree[place]
                while above is not None:
                    begins[above] = min(begins[above], place)
                    ends[above] = max(ends[above], place + 1)
                    above = tree[above]
            self.assertEqual(list(zip(begins, ends)), reaches(row))

    def test_papers_show_the_sum_of_leasts(self):
        for row in self.rows():
            self.assertEqual(paper_of(row), reaches(row))
            self.assertEqual(shows(row, paper_of(row)), sum_of_leasts(row))
            self.assertEqual(shows(row, reaches(row)), sum(least * many for least, many in by_leasts(row)))

    def test_growing_rows_tell_the_sums(self):
        for row in self.rows():
            growing = Growing()
            for number in [*row, -5, 5]:
                growing.put(number)
            growing.take(2)
            self.assertEqual(growing.numbers(), row)
            self.assertEqual(growing.many(), len(row))
            self.assertEqual(growing.leasts(), sum_of_leasts(row))
            self.assertEqual(growing.greatests(), sum_of_greatests(row))
            self.assertEqual(growing.spreads(), sum_of_spreads(row))
            self.assertEqual(growing.last_leasts(), sum_of_leasts(row) - sum_of_leasts(row[:-1]))
            self.assertEqual(growing.last_greatests(), sum_of_greatests(row) - sum_of_greatests(row[:-1]))
            self.assertEqual(growing.last_spreads(), sum_of_spreads(row) - sum_of_spreads(row[:-1]))

    def test_the_last_sums_of_a_row_that_grows_add_up(self):
        for row in self.rows():
            growing = Growing()
            leasts = greatests = spreads = 0
            for number in row[:40]:
                growing.put(number)
                leasts += growing.last_leasts()
                greatests += growing.last_greatests()
                spreads += growing.last_spreads()
                sums = [growing.leasts(), growing.greatests(), growing.spreads()]
                self.assertEqual(sums, [leasts, greatests, spreads])

    def test_the_desk_tells_all_of_a_row(self):
        for row in self.rows():
            desk = Desk()
            desk.say(f"row {show_row(row)}")
            self.assertEqual(read_row(desk.say("show")), row)
            sums = [sum_of_leasts(row), sum_of_greatests(row), sum_of_spreads(row)]
            ahead = [sum_of_leasts(row[:-1]), sum_of_greatests(row[:-1]), sum_of_spreads(row[:-1])]
            self.assertEqual(desk.say("sums"), parted(*sums))
            self.assertEqual(desk.say("last"), parted(*[one - other for one, other in zip(sums, ahead)]))
            self.assertEqual(desk.say("within 2"), parted(many_within(row, 2)))
            self.assertEqual(desk.say("worth"), parted(*most_worth(row)) if row else "none")
            if row:
                self.assertEqual(desk.say(f"part 0 {len(row)}"), parted(*sums))
                self.check_a_part_at_the_desk(desk, row, len(row) // 3, len(row))

    def check_a_part_at_the_desk(self, desk, row, begin, end):
        ready, tree = Ready(row), tree_of(row)
        self.assertEqual(desk.say(f"part {begin} {end}"), parted(ready.leasts(begin, end), ready.greatests(begin, end),
                                                                 ready.spreads(begin, end)))
        self.assertEqual(desk.say(f"least {begin} {end}"),
                         parted(least_of(row, begin, end), lowest_above(tree, begin, end - 1)))
        self.assertEqual(desk.say(f"at {place_of(row, begin, end)}"), parted(least_of(row, begin, end), begin, end))
