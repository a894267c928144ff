"""Papers: the reaches of all places written down, and a small checker that takes none of them on trust."""

from stretchleast.reach import held_within, reaches
from stretchleast.rows import is_whole


def paper_of(row):
    """The paper of the row: a list of tuples (begin, end), the reaches of all places."""
    return reaches(row)


def is_around(row, place, thing):
    """Tell of anything whether it is (begin, end), both from 0 to the length, and holds the place."""
    if not isinstance(thing, tuple) or len(thing) != 2:
        return False
    begin, end = thing
    return is_whole(begin) and is_whole(end) and 0 <= begin <= place < end <= len(row)


def is_reach(row, place, thing):
    """Tell of anything whether it may stand for a place: in it the least stands first at the place."""
    if not is_around(row, place, thing):
        return False
    begin, end = thing
    ahead = all(other > row[place] for other in row[begin:place])
    return ahead and all(other >= row[place] for other in row[place + 1:end])


def shows(row, thing):
    """Tell of anything the sum of leasts that it shows as a paper of the row; None where it is none."""
    if not isinstance(thing, list) or len(thing) != len(row):
        return None
    if not all(is_reach(row, place, reach) for place, reach in enumerate(thing)):
        return None
    counts = held_within(thing)
    # No stretch is counted twice, for its least stands first at one place only; so none is left out if there
    # are as many counted as there are stretches.
    if sum(counts) != len(row) * (len(row) + 1) // 2:
        return None
    return sum(number * many for number, many in zip(row, counts))
