"""Stretches counted by their leasts."""

from stretchleast.reach import many_held


def by_leasts(row):
    """The unlike leasts of all stretches with how many have each: tuples (least, how many), rising."""
    counts = {}
    for number, many in zip(row, many_held(row)):
        counts[number] = counts.get(number, 0) + many
    return sorted(counts.items())


def many_with(row, number):
    """How many stretches have just the number as their least."""
    return sum(many for least, many in by_leasts(row) if least == number)


def many_from(row, number):
    """How many stretches have a least of at least the number."""
    return sum(many for least, many in by_leasts(row) if least >= number)


def many_to(row, number):
    """How many stretches have a least of at most the number."""
    return sum(many for least, many in by_leasts(row) if least <= number)
