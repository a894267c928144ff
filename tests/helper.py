"""What the tests share: rows to try, things of every kind, searches number by number, and tests to mix in."""

from itertools import product

from stretchleast.errors import NoStretch

DEEP = 50000


def chance(seed):
    """Numbers that look like chance but are the same in every run."""
    state = seed
    while True:
        state = (state * 6364136223846793005 + 1442695040888963407) % 2 ** 64
        yield state >> 20


def chance_row(seed, many, low, high):
    numbers = chance(seed)
    return [low + next(numbers) % (high - low + 1) for _ in range(many)]


def short_rows():
    """All rows of at most five numbers out of three, and some longer ones."""
    for many in range(6):
        for numbers in product((-1, 0, 2), repeat=many):
            yield list(numbers)
    for seed in range(40):
        yield chance_row(seed, 6 + seed % 7, -3, 3)
    for seed in range(20):
        yield chance_row(seed, 1 + seed % 9, -10 ** 12, 10 ** 12)
    yield [10 ** 12, -10 ** 12]
    yield [-10 ** 12, 10 ** 12, -10 ** 12, 10 ** 12]


def long_rows():
    """Rows of 300 numbers, by name."""
    return {
        "far apart": chance_row(1, 300, -10 ** 12, 10 ** 12),
        "few unlike": chance_row(2, 300, -2, 2),
        "below nought": chance_row(3, 300, -10 ** 12, -1),
        "alike": [7] * 300,
        "rising": list(range(-150, 150)),
        "falling": list(range(150, -150, -1)),
        "up and down": [(-1) ** place * place for place in range(300)],
        "a valley": [abs(place - 150) for place in range(300)],
    }


def nested(make, depth=DEEP):
    thing = make(None)
    for _ in range(depth):
        thing = make(thing)
    return thing


def deep_things():
    """Things of thousands of layers, by name; they are never compared or written out."""
    return {
        "a deep list": nested(lambda inner: [inner]),
        "a deep tuple": nested(lambda inner: (inner,)),
        "a deep list of tuples": nested(lambda inner: [(inner,)]),
        "a deep dict": nested(lambda inner: {"in": inner}),
    }


def no_whole_numbers():
    """Things of every kind that are no whole numbers, by name."""
    around = []
    around.append(around)
    return {
        "True": True,
        "False": False,
        "None": None,
        "an empty text": "",
        "a text": "1",
        "bytes": b"1",
        "an empty list": [],
        "a list": [1],
        "a list that holds itself": around,
        "an empty tuple": (),
        "a tuple": (0, 1),
        "a dict": {0: 1},
        "a set": {1},
        "a range": range(3),
        "an object": object(),
        "a class": int,
        "a function": nested,
        **deep_things(),
    }


def stretches(row):
    for begin in range(len(row)):
        for end in range(begin + 1, len(row) + 1):
            yield begin, end


def searched(row):
    """For each stretch (begin, end) its least, its greatest and the first place of each, found number by number."""
    found = {}
    for begin in range(len(row)):
        least_at = greatest_at = begin
        for place in range(begin, len(row)):
            if row[place] < row[least_at]:
                least_at = place
            if row[place] > row[greatest_at]:
                greatest_at = place
            found[begin, place + 1] = (row[least_at], row[greatest_at], least_at, greatest_at)
    return found


def walked_sums(row):
    """For each part (begin, end) the sums of leasts and of greatests of all stretches within it, added one by one."""
    found = searched(row)
    sums = {(place, place): (0, 0) for place in range(len(row) + 1)}
    for begin in reversed(range(len(row))):
        # What is within a part begins where the part does, or lies within the part that is shorter by this number.
        leasts = greatests = 0
        for end in range(begin + 1, len(row) + 1):
            leasts += found[begin, end][0]
            greatests += found[begin, end][1]
            shorter = sums[begin + 1, end]
            sums[begin, end] = (shorter[0] + leasts, shorter[1] + greatests)
    return sums


def walked_totals(row):
    """The sums of leasts and of greatests over all stretches, then over those that end at the last number."""
    leasts = greatests = last_leasts = last_greatests = 0
    for (_, end), (least, greatest, _, _) in searched(row).items():
        leasts += least
        greatests += greatest
        if end == len(row):
            last_leasts += least
            last_greatests += greatest
    return leasts, greatests, last_leasts, last_greatests


def ordered(row):
    """All stretches of a row as (least, begin, end), in the order of promise 13."""
    return sorted((found[0], begin, end) for (begin, end), found in searched(row).items())


class ChecksRows:
    """Rows of every kind for the check of a test; to be mixed into a TestCase that has a check(row)."""

    def test_short_rows(self):
        for row in short_rows():
            self.check(row)

    def test_rows_of_every_length(self):
        for many in range(0, 301, 12):
            for reach in (1, 20, 10 ** 12):
                self.check(chance_row(many + reach, many, -reach, reach))

    def test_rows_of_300(self):
        for name, row in long_rows().items():
            with self.subTest(name):
                self.check(row)

    def test_somewhat_beyond_the_limits(self):
        self.check(chance_row(5, 500, -10 ** 15, 10 ** 15))
        self.check(list(range(500)))
        self.check(list(range(500, 0, -1)))


class RefusesNoStretch:
    """Promise 4 for all of the tellers, functions of a row, a begin and an end; to be mixed into a TestCase."""

    tellers = ()

    def refused(self, row, begin, end):
        for tell in self.tellers:
            with self.assertRaises(NoStretch) as caught:
                tell(row, begin, end)
            self.assertIs(type(caught.exception), NoStretch)
            self.assertIsInstance(str(caught.exception), str)

    def test_places_beyond_the_row(self):
        for many in range(5):
            row = list(range(many))
            good = set(stretches(row))
            for begin in range(-7, 8):
                for end in range(-7, 8):
                    if (begin, end) not in good:
                        with self.subTest(many=many, begin=begin, end=end):
                            self.refused(row, begin, end)

    def test_places_far_beyond(self):
        # 10 ** 6000 has more figures than Python writes out.
        for far in (10 ** 6000, -10 ** 6000, 10 ** 30, -10 ** 30):
            self.refused([1, 2, 3], far, 2)
            self.refused([1, 2, 3], 0, far)
            self.refused([1, 2, 3], far, far)

    def test_row_of_none(self):
        for begin, end in ((0, 0), (0, 1), (-1, 0), (None, None)):
            with self.subTest(begin=begin, end=end):
                self.refused([], begin, end)

    def test_row_of_300(self):
        row = list(range(300))
        for begin, end in ((0, 301), (300, 300), (300, 301), (299, 299), (-1, 300), (299, 1)):
            with self.subTest(begin=begin, end=end):
                self.refused(row, begin, end)

    def test_things_of_every_kind(self):
        row = [3, 1, 2]
        for name, wrong in no_whole_numbers().items():
            with self.subTest(name):
                self.refused(row, wrong, 2)
                self.refused(row, 0, wrong)
                self.refused(row, wrong, wrong)
                # Beside a number that is no place either.
                self.refused(row, wrong, 9)
                self.refused(row, -1, wrong)
                self.refused([], wrong, wrong)

    def test_unlike_wrong_things(self):
        wrongs = no_whole_numbers()
        for one in wrongs.values():
            for other in wrongs.values():
                self.refused([3, 1, 2], one, other)

    def test_truths_are_no_places(self):
        self.refused([3, 1, 2], False, True)
        self.refused([3, 1, 2], False, 2)
        self.refused([3, 1, 2], 0, True)

    def test_deep_things_are_left_as_they_are(self):
        for name, deep in deep_things().items():
            with self.subTest(name):
                self.refused([3, 1, 2], deep, deep)
                self.assertEqual(len(deep), 1)
