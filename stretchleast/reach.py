"""Reaches: how far around a place its number stays the first least, or the first greatest."""


def reaches(row):
    """The reaches of all places for the least, as a list of tuples (begin, end)."""
    begins = []
    ends = [len(row)] * len(row)
    # The places whose reach has not ended yet; their numbers never fall from one to the next.
    waiting = []
    for place, number in enumerate(row):
        while waiting and row[waiting[-1]] > number:
            ends[waiting.pop()] = place
        # A like number ahead bounds the reach, for the least would stand first there.
        begins.append(waiting[-1] + 1 if waiting else 0)
        waiting.append(place)
    return list(zip(begins, ends))


def greatest_reaches(row):
    """The reaches of all places for the greatest, as a list of tuples (begin, end)."""
    # The greatest of a row stand where the leasts of its negatives do, like ones included.
    return reaches([-number for number in row])


def held_within(spans):
    """For each place, of its own (begin, end) among the spans, how many stretches within it hold the place."""
    return [(place - begin + 1) * (end - place) for place, (begin, end) in enumerate(spans)]


def many_held(row):
    """For each place how many stretches within its reach hold it: those whose least stands first there."""
    return held_within(reaches(row))
