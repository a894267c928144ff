"""Rows as texts: their numbers parted by one blank each, of a row of none `-`."""

from stretchleast.errors import NoText

MOST_FIGURES = 13
TEXT_OF_NONE = "-"


def parted(numbers):
    """The numbers as they are written, parted by one blank each."""
    return " ".join(str(number) for number in numbers)


def show_row(row):
    """The text of a row."""
    return parted(row) if row else TEXT_OF_NONE


def is_number(word):
    """Tell whether a word is a number of at most thirteen figures, just as it is written."""
    figures = word.removeprefix("-")
    # Python takes figures of other scripts for figures, too.
    if not figures.isascii() or not figures.isdigit() or len(figures) > MOST_FIGURES:
        return False
    return word == "0" or not figures.startswith("0")


def read_row(text):
    """The row that has the text; NoText of any other."""
    if not isinstance(text, str):
        raise NoText("this is no text")
    if text == TEXT_OF_NONE:
        return []
    words = text.split(" ")
    if not all(is_number(word) for word in words):
        # The text is not shown, for there is no bound to its length.
        raise NoText("this is not the text of a row")
    return [int(word) for word in words]
