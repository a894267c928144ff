"""Trees: above all numbers of a part stands the first place of its least."""

from stretchleast.reach import reaches
from stretchleast.rows import is_whole


def right_above(row, reach):
    """The place right above the place with the reach; None where the reach is the whole row."""
    begin, end = reach
    # A place has just the numbers of its reach below it, so one of the two places beside the reach is right
    # above. The other one is above that one, too: it has the lesser number or, of like ones, stands ahead.
    beside = [(row[place], place) for place in (begin - 1, end) if 0 <= place < len(row)]
    return max(beside)[1] if beside else None


def tree_of(row):
    """For each place the place right above it in the tree, None for the top."""
    return [right_above(row, reach) for reach in reaches(row)]


def is_same_place(thing, place):
    """Tell of anything whether it is the place, or None as the place is."""
    if place is None:
        return thing is None
    # True and False are like 1 and 0 to Python; they are no places.
    return is_whole(thing) and thing == place


def is_tree_of(row, thing):
    """Tell of anything whether it is the tree of the row."""
    if not isinstance(thing, list) or len(thing) != len(row):
        return False
    return all(is_same_place(told, place) for told, place in zip(thing, tree_of(row)))


def places_above(tree, place):
    """The places above a place, from itself up to the top."""
    above = []
    while place is not None:
        above.append(place)
        place = tree[place]
    return above


def lowest_above(tree, one, other):
    """The lowest place that is above both places, in either order; a place counts as above itself."""
    above_other = {place: True for place in places_above(tree, other)}
    above_both = [place for place in places_above(tree, one) if place in above_other]
    return above_both[0]
