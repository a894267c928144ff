"""Rows of whole numbers, and what is told of one stretch of a row."""

from stretchleast.errors import NoStretch


def is_whole(thing):
    """Tell of anything whether it is a whole number."""
    # Python counts True and False among the integers; here they are none.
    return isinstance(thing, int) and not isinstance(thing, bool)


def is_row(thing):
    """Tell of anything whether it is a row: a list of whole numbers, perhaps of none."""
    return isinstance(thing, list) and all(is_whole(number) for number in thing)


def is_stretch(row, begin, end):
    """Tell of any two things whether they are the begin and the end of a stretch of the row."""
    if not is_whole(begin) or not is_whole(end):
        return False
    return 0 <= begin < end <= len(row)


def numbers_of(row, begin, end):
    """The numbers of a stretch, as a new list; NoStretch where it is none."""
    if not is_stretch(row, begin, end):
        # What was handed in is not shown: it may be nested too deep, or too long, to be written out.
        raise NoStretch("begin and end are not those of a stretch of the row")
    return row[begin:end]


def least_of(row, begin, end):
    """The least number of a stretch."""
    return min(numbers_of(row, begin, end))


def greatest_of(row, begin, end):
    """The greatest number of a stretch."""
    return max(numbers_of(row, begin, end))


def spread_of(row, begin, end):
    """The greatest number of a stretch less its least."""
    numbers = numbers_of(row, begin, end)
    return max(numbers) - min(numbers)


def least_place(row, begin, end):
    """The first place, counted in the row, at which the least of a stretch stands."""
    numbers = numbers_of(row, begin, end)
    return begin + numbers.index(min(numbers))
