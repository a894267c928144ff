"""Worths: the least of a stretch times its length."""

from stretchleast.reach import reaches
from stretchleast.rows import least_of


def worth_of(row, begin, end):
    """The least of a stretch times its length; NoStretch where it is none."""
    return least_of(row, begin, end) * (end - begin)


def best_around(number, place, reach):
    """The stretch to try for a place: of those whose least stands first there, one of the greatest worth."""
    # All of them have the number as their least, so the longest is worth the most, or below 0 the shortest.
    # If the number is 0, they are worth the same. The first of them is then the place alone, or it begins
    # with a greater number, which is worth more than any of them.
    return reach if number > 0 else (place, place + 1)


def most_worth(row):
    """The greatest worth, and the first stretch that has it: (worth, begin, end); None of a row of none."""
    found = []
    for place, reach in enumerate(reaches(row)):
        begin, end = best_around(row[place], place, reach)
        # The worth is turned about, so that the least tuple has the greatest worth and the first begin and end.
        found.append((-row[place] * (end - begin), begin, end))
    if not found:
        return None
    turned, begin, end = min(found)
    return (-turned, begin, end)
