"""What the tests share: rows to try, things of every kind, and searches number by number."""

from itertools import product

DEEP = 50000


def chance(seed):
    """Numbers that look like chance but are the same in every run."""
    state = seed
    while True:
        state = (state * 6364136223846793005 + 1442695040888963407) % 2 ** 64
        yield state >> 20


def chance_row(seed, many, low, high):
    numbers = chance(seed)
    return [low + next(numbers) % (high - low + 1) for _ in range(many)]


def short_rows():
    """All rows of at most five numbers out of three, and some longer ones."""
    for many in range(6):
        for numbers in product((-1, 0, 2), repeat=many):
            yield list(numbers)
    for seed in range(40):
        yield chance_row(seed, 6 + seed % 7, -3, 3)
    for seed in range(20):
        yield chance_row(seed, 1 + seed % 9, -10 ** 12, 10 ** 12)
    yield [10 ** 12, -10 ** 12]
    yield [-10 ** 12, 10 ** 12, -10 ** 12, 10 ** 12]


def long_rows():
    """Rows of 300 numbers, by name."""
    return {
        "far apart": chance_row(1, 300, -10 ** 12, 10 ** 12),
        "few unlike": chance_row(2, 300, -2, 2),
        "alike": [7] * 300,
        "rising": list(range(-150, 150)),
        "falling": list(range(150, -150, -1)),
        "up and down": [(-1) ** place * place for place in range(300)],
        "a valley": [abs(place - 150) for place in range(300)],
    }


def nested(make, depth=DEEP):
    thing = make(None)
    for _ in range(depth):
        thing = make(thing)
    return thing


def deep_things():
    """Things of thousands of layers, by name; they are never compared or written out."""
    return {
        "a deep list": nested(lambda inner: [inner]),
        "a deep tuple": nested(lambda inner: (inner,)),
        "a deep list of tuples": nested(lambda inner: [(inner,)]),
        "a deep dict": nested(lambda inner: {"in": inner}),
    }


def no_whole_numbers():
    """Things of every kind that are no whole numbers, by name."""
    around = []
    around.append(around)
    return {
        "True": True,
        "False": False,
        "None": None,
        "an empty text": "",
        "a text": "1",
        "bytes": b"1",
        "an empty list": [],
        "a list": [1],
        "a list that holds itself": around,
        "an empty tuple": (),
        "a tuple": (0, 1),
        "a dict": {0: 1},
        "a set": {1},
        "a range": range(3),
        "an object": object(),
        "a class": int,
        "a function": nested,
        **deep_things(),
    }


def stretches(row):
    for begin in range(len(row)):
        for end in range(begin + 1, len(row) + 1):
            yield begin, end


def searched(row):
    """For each stretch (begin, end) its least, its greatest and the first place of each, found number by number."""
    found = {}
    for begin in range(len(row)):
        least_at = greatest_at = begin
        for place in range(begin, len(row)):
            if row[place] < row[least_at]:
                least_at = place
            if row[place] > row[greatest_at]:
                greatest_at = place
            found[begin, place + 1] = (row[least_at], row[greatest_at], least_at, greatest_at)
    return found
