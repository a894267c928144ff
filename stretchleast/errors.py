"""The refusals of the program: SpanError, and one class under it for each kind."""


class SpanError(ValueError):
    """Any refusal."""


class NoStretch(SpanError):
    """Two things that are not the begin and the end of a stretch."""


class NoPlace(SpanError):
    """A thing that is no place in the order of all stretches."""


class NoNumber(SpanError):
    """A thing that is no whole number."""


class NoMany(SpanError):
    """A thing that does not tell how many last numbers to take."""


class NoText(SpanError):
    """A text that is not the text of a row."""


class NoCommand(SpanError):
    """A thing that the desk does not understand."""
