"""Small spreads: the stretches whose spread is at most a number."""

from stretchleast.rows import spread_of


def widest_begins(row, spread):
    """For each end, from 1 on, the least begin of a stretch of at most such a spread; the end itself where none is."""
    begins = []
    begin = 0
    for end in range(1, len(row) + 1):
        # A longer stretch has no lesser spread, so a begin that was too far ahead stays so for the ends to come.
        while begin < end and spread_of(row, begin, end) > spread:
            begin += 1
        begins.append(begin)
    return begins


def many_within(row, spread):
    """How many stretches have a spread of at most the number."""
    return sum(end - begin for end, begin in enumerate(widest_begins(row, spread), start=1))


def longest_within(row, spread):
    """The longest stretch with a spread of at most the number, of several the first: (begin, end), or None."""
    longest = None
    length = 0
    for end, begin in enumerate(widest_begins(row, spread), start=1):
        if end - begin > length:
            longest = (begin, end)
            length = end - begin
    return longest
