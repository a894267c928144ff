"""The desk: it keeps a growing row, is told rows of words, and answers each by a text."""

from stretchleast.errors import NoCommand, NoText
from stretchleast.growing import Growing
from stretchleast.manieth import stretch_at
from stretchleast.notes import is_number, parted, read_row, show_row
from stretchleast.parts import Ready
from stretchleast.rows import least_of, least_place
from stretchleast.spreads import many_within
from stretchleast.worth import most_worth

MOST_NUMBERS = 300
DONE = "ok"
ROW = "row "


def put_number(growing, number):
    """Put a number at the end; NoCommand if there are as many as a desk keeps."""
    if growing.many() >= MOST_NUMBERS:
        raise NoCommand("the row at the desk has as many numbers as it may have")
    growing.put(number)
    return DONE


def take_numbers(growing, many):
    """Take so many of the last numbers; NoMany if there are fewer."""
    growing.take(many)
    return DONE


def tell_row(growing):
    """The text of the row."""
    return show_row(growing.numbers())


def tell_sums(growing):
    """The sums over all stretches, of leasts, greatests and spreads."""
    return parted([growing.leasts(), growing.greatests(), growing.spreads()])


def tell_last(growing):
    """The sums over the stretches that end at the last number, of leasts, greatests and spreads."""
    return parted([growing.last_leasts(), growing.last_greatests(), growing.last_spreads()])


def tell_part(growing, begin, end):
    """The sums over the stretches within a part, of leasts, greatests and spreads; NoStretch where it is none."""
    ready = Ready(growing.numbers())
    return parted([ready.leasts(begin, end), ready.greatests(begin, end), ready.spreads(begin, end)])


def tell_least(growing, begin, end):
    """The least of a stretch and its first place; NoStretch where it is none."""
    row = growing.numbers()
    return parted([least_of(row, begin, end), least_place(row, begin, end)])


def tell_stretch(growing, place):
    """The stretch at a place of the order by leasts: its least, its begin, its end; NoPlace where it is none."""
    return parted(stretch_at(growing.numbers(), place))


def tell_many_within(growing, spread):
    """How many stretches have a spread of at most the number."""
    return parted([many_within(growing.numbers(), spread)])


def tell_worth(growing):
    """The greatest worth with the begin and the end of its first stretch, or that there is none."""
    most = most_worth(growing.numbers())
    return "none" if most is None else parted(most)


# What is done at each first word but that of a row, which is read as it stands.
ACTIONS = {
    "put": put_number,
    "take": take_numbers,
    "show": tell_row,
    "sums": tell_sums,
    "last": tell_last,
    "part": tell_part,
    "least": tell_least,
    "at": tell_stretch,
    "within": tell_many_within,
    "worth": tell_worth,
}
# For each number that stands behind a first word whether it may be below 0.
BEHIND = {
    "put": (True,),
    "take": (False,),
    "show": (),
    "sums": (),
    "last": (),
    "part": (False, False),
    "least": (False, False),
    "at": (False,),
    "within": (True,),
    "worth": (),
}


def numbers_behind(first, others):
    """The numbers that the other words of a row are; NoCommand where they may not stand behind the first one."""
    if first not in BEHIND or len(others) != len(BEHIND[first]):
        raise NoCommand("the desk does not know such a row of words")
    for word, may_be_below in zip(others, BEHIND[first]):
        if not is_number(word) or (word.startswith("-") and not may_be_below):
            raise NoCommand("a word is not a number that may stand there")
    return [int(word) for word in others]


def grown_of(text):
    """A growing row of the numbers of a row's text; NoText of any other, and of more numbers than a desk keeps."""
    row = read_row(text)
    if len(row) > MOST_NUMBERS:
        raise NoText("the row has more numbers than one at a desk may have")
    growing = Growing()
    for number in row:
        growing.put(number)
    return growing


class Desk:
    """A desk with a growing row, which has no numbers at first."""

    def __init__(self):
        self.growing = Growing()

    def say(self, words):
        """The answer to a row of words; NoCommand where it is none of the desk's."""
        if not isinstance(words, str):
            raise NoCommand("this is no text")
        if words.startswith(ROW):
            self.growing = grown_of(words.removeprefix(ROW))
            return DONE
        first, *others = words.split(" ")
        numbers = numbers_behind(first, others)
        action = ACTIONS[first]
        return action(self.growing, *numbers)
