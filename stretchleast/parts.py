"""Parts: a row is made ready once, then the sums of any part of it are told."""

from stretchleast.reach import reaches
from stretchleast.rows import greatest_of, least_of, least_place


def sums_by_end(row, spans):
    """For each end, from 0 to the length, the sum of the leasts of all stretches that end there."""
    sums = [0]
    for place, (begin, end) in enumerate(spans):
        # A stretch that begins ahead of the reach has a least ahead of the reach:
        # the same as if it ended where the reach begins.
        sums.append(row[place] * (place - begin + 1) + sums[begin])
    return sums


def sums_by_begin(row, spans):
    """For each begin, from 0 to the length, the sum of the leasts of all stretches that begin there."""
    sums = [0] * (len(row) + 1)
    for place in reversed(range(len(row))):
        end = spans[place][1]
        # A stretch that ends behind the reach has a least behind the reach:
        # the same as if it began where the reach ends.
        sums[place] = row[place] * (end - place) + sums[end]
    return sums


class LeastSums:
    """A row made ready for the sums of the leasts within its parts."""

    def __init__(self, row):
        self.row = list(row)
        spans = reaches(row)
        self.by_end = sums_by_end(row, spans)
        self.by_begin = sums_by_begin(row, spans)

    def within(self, begin, end):
        """The sum of the leasts of all stretches within a part; NoStretch where the part is no stretch."""
        place = least_place(self.row, begin, end)
        ahead = place - begin + 1
        behind = end - place
        # No number of the part is less than the one at the place. So whatever stretch reaches from the place, or
        # from ahead of it, further into the part has the same least as if it ended with the place. Taking these
        # off for each end leaves those that lie wholly behind the place; likewise ahead of it, for each begin.
        wholly_behind = sum(self.by_end[place + 1:end + 1]) - behind * self.by_end[place + 1]
        wholly_ahead = sum(self.by_begin[begin:place + 1]) - ahead * self.by_begin[place]
        return wholly_ahead + self.row[place] * ahead * behind + wholly_behind


class Ready:
    """A row made ready, as it is now: whatever becomes of the list, the parts are told of this row."""

    def __init__(self, row):
        self.row = list(row)
        self.least_sums = LeastSums(self.row)
        # The greatests of a row are the leasts of its negatives, turned about.
        self.negative_sums = LeastSums([-number for number in self.row])

    def leasts(self, begin, end):
        """The sum of the leasts of all stretches within a part."""
        return self.least_sums.within(begin, end)

    def greatests(self, begin, end):
        """The sum of the greatests of all stretches within a part."""
        return -self.negative_sums.within(begin, end)

    def spreads(self, begin, end):
        """The sum of the spreads of all stretches within a part."""
        return self.greatests(begin, end) - self.leasts(begin, end)

    def least(self, begin, end):
        """The least number of a part."""
        return least_of(self.row, begin, end)

    def greatest(self, begin, end):
        """The greatest number of a part."""
        return greatest_of(self.row, begin, end)

    def first_least(self, begin, end):
        """The first place, counted in the row, at which the least of a part stands."""
        return least_place(self.row, begin, end)
