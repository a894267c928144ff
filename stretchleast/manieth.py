"""The so-manieth stretch: all stretches ordered by their leasts, like ones by begin, then by end.

The stretches whose least stands first at one place stand side by side in that order: those of a like number
further behind begin further behind, too, for the number ahead bounds their reach. Within a place's reach each
begin up to the place goes with each end behind it.
"""

from stretchleast.errors import NoPlace
from stretchleast.reach import many_held, reaches
from stretchleast.rows import is_whole, least_place


def reaches_in_order(row):
    """The reaches in the order of their stretches: tuples (least, its first place, begin, end)."""
    return sorted([(row[first], first, begin, end) for first, (begin, end) in enumerate(reaches(row))])


def stretch_at(row, place):
    """The stretch at a place of the order, from 0: (least, begin, end); NoPlace of what is no such place."""
    if is_whole(place) and place >= 0:
        left = place
        for least, first, begin, end in reaches_in_order(row):
            ends = end - first
            many = (first - begin + 1) * ends
            if left < many:
                begins_on, ends_on = divmod(left, ends)
                return (least, begin + begins_on, first + 1 + ends_on)
            left -= many
    # What was handed in is not shown: it may be nested too deep, or too long, to be written out.
    raise NoPlace("this is no place in the order of the row's stretches")


def place_of(row, begin, end):
    """The place of a stretch in the order, from 0; NoStretch where it is none."""
    first = least_place(row, begin, end)
    mark = (row[first], first)
    ahead = sum(many for other, many in enumerate(many_held(row)) if (row[other], other) < mark)
    reach_begin, reach_end = reaches(row)[first]
    return ahead + (begin - reach_begin) * (reach_end - first) + end - first - 1
