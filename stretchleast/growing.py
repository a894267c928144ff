"""Rows that grow: numbers are put at the end of a row, and its last ones are taken again."""

from stretchleast.errors import NoMany, NoNumber
from stretchleast.parts import sums_by_end
from stretchleast.reach import reaches
from stretchleast.rows import is_whole
from stretchleast.sums import sum_of_greatests, sum_of_leasts, sum_of_spreads


def last_sum_of_leasts(row):
    """The sum of the leasts of all stretches that end at the last number, 0 of a row of none."""
    return sums_by_end(row, reaches(row))[-1]


class Growing:
    """A growing row, made empty. All is told of the row of now: nothing but its numbers is kept."""

    def __init__(self):
        self.row = []

    def put(self, number):
        """Put a number at the end; NoNumber of what is no whole number."""
        if not is_whole(number):
            # What was handed in is not shown: it may be nested too deep, or too long, to be written out.
            raise NoNumber("this is no whole number")
        self.row.append(number)

    def take(self, many):
        """Take so many of the last numbers; NoMany of what is no whole number from 0 to the length."""
        if not is_whole(many) or not 0 <= many <= len(self.row):
            raise NoMany("this is not how many last numbers can be taken")
        self.row = self.row[:len(self.row) - many]

    def numbers(self):
        """The numbers, as a new list."""
        return list(self.row)

    def many(self):
        """How many numbers there are."""
        return len(self.row)

    def leasts(self):
        """The sum of the leasts of all stretches."""
        return sum_of_leasts(self.row)

    def greatests(self):
        """The sum of the greatests of all stretches."""
        return sum_of_greatests(self.row)

    def spreads(self):
        """The sum of the spreads of all stretches."""
        return sum_of_spreads(self.row)

    def last_leasts(self):
        """The sum of the leasts of the stretches that end at the last number."""
        return last_sum_of_leasts(self.row)

    def last_greatests(self):
        """The sum of the greatests of the stretches that end at the last number."""
        # The greatests of a row are the leasts of its negatives, turned about.
        return -last_sum_of_leasts([-number for number in self.row])

    def last_spreads(self):
        """The sum of the spreads of the stretches that end at the last number."""
        return self.last_greatests() - self.last_leasts()
