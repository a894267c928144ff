"""Sums over all stretches of a row: of their leasts, their greatests and their spreads."""

from stretchleast.reach import many_held


def sum_of_leasts(row):
    """The sum of the leasts of all stretches, 0 of a row of none."""
    # Each stretch has its least first at just one place, so each is counted once.
    return sum(number * many for number, many in zip(row, many_held(row)))


def sum_of_greatests(row):
    """The sum of the greatests of all stretches, 0 of a row of none."""
    return -sum_of_leasts([-number for number in row])


def sum_of_spreads(row):
    """The sum of the spreads of all stretches, 0 of a row of none."""
    return sum_of_greatests(row) - sum_of_leasts(row)
