"""What several tests use: things that are refused, small rows, and the words of the document tried out plainly."""

import decimal
import fractions
import itertools
import unittest

from fallrow.errors import FallError

# More figures than Python turns into a text, so that a refusal that shows its value is found out.
HUGE = 10 ** 5000


class Unequal:
    def __eq__(self, other):
        raise RuntimeError("compared")

    def __bool__(self):
        raise RuntimeError("asked for its truth")

    def __repr__(self):
        raise RuntimeError("shown")

    __lt__ = __gt__ = __le__ = __ge__ = __ne__ = __eq__
    __hash__ = None


def endless_list():
    inner = []
    inner.append(inner)
    return inner


NO_NUMBERS = [
    None, True, False, 0.0, 1.0, -1.0, 1.5, float("nan"), float("inf"), 1j, "", "1", b"1",
    fractions.Fraction(1), decimal.Decimal(1), [], [1], (), (1,), {}, {1: 1}, set(), {1}, frozenset(),
    range(1), object(), int, len, Unequal(), endless_list(),
]

NO_LISTS = [
    None, True, False, 0, 1, HUGE, 1.0, "", "0:1", b"", (), ((0, 1),), {}, {0: (0, 1)}, set(), {(0, 1)},
    frozenset(), range(0), iter([]), (stone for stone in [(0, 1)]), object(), list, Unequal(),
]

NO_PAIRS = [
    None, True, 0, 1, 1.0, "", "01", b"01", [], [0, 1], (), (0,), (0, 1, 2), ((0, 1),), {}, {0: 1, 1: 2},
    {0, 1}, range(2), iter((0, 1)), object(), tuple, Unequal(), endless_list(),
]


def bad_rows():
    rows = list(NO_LISTS)
    for thing in NO_PAIRS:
        rows.extend([[thing], [(0, 1), thing], [thing, (0, 1)]])
    for thing in NO_NUMBERS:
        rows.extend([[(thing, 1)], [(0, thing)], [(thing, thing)], [(-9, 1), (thing, 1)], [(-9, 1), (9, thing)]])
    for height in (0, -1, -2, -HUGE):
        rows.extend([[(0, height)], [(0, 1), (1, height)], [(0, height), (1, 1)]])
    rows.extend([
        [(0, 1), (0, 1)], [(0, 1), (0, 2)], [(1, 1), (0, 1)], [(0, 1), (-1, 1)],
        [(0, 1), (2, 1), (1, 1)], [(0, 1), (2, 1), (2, 1)], [(3, 1), (1, 1), (2, 1)],
        [(HUGE, 1), (HUGE, 1)], [(HUGE, 1), (HUGE - 1, 1)], [(-HUGE, 1), (-HUGE - 1, 1)],
    ])
    return rows


def bad_stones(count):
    return NO_NUMBERS + [-1, -2, -count, -count - 1, -HUGE, count, count + 1, HUGE]


BAD_SIDES = NO_NUMBERS + [0, 2, -2, 3, HUGE, -HUGE]


def knocks(row, one, other, side):
    distance = (row[other][0] - row[one][0]) * side
    return 0 < distance <= row[one][1]


def felled_by_the_words(row, stone, side):
    fallen = {stone}
    while True:
        more = {k for k in range(len(row)) for one in fallen if knocks(row, one, k, side)} - fallen
        if not more:
            return sorted(fallen)
        fallen |= more


def small_rows():
    yield []
    for count, heights in ((1, 3), (2, 5), (3, 4), (4, 3)):
        for places in itertools.combinations(range(-3, 3), count):
            for chosen in itertools.product(range(1, heights + 1), repeat=count):
                yield list(zip(places, chosen))


def few_rows():
    """Fewer of them, where all that could be told of each is tried out."""
    yield []
    for count, width, heights in ((1, 1, 2), (2, 3, 3), (3, 4, 2)):
        for places in itertools.combinations(range(-1, width), count):
            for chosen in itertools.product(range(1, heights + 1), repeat=count):
                yield list(zip(places, chosen))


def lists_of(things, longest):
    for count in range(longest + 1):
        for chosen in itertools.product(things, repeat=count):
            yield list(chosen)


def every_push(row):
    return [(stone, side) for stone in range(len(row)) for side in (1, -1)]


def is_chain(row, push, stone, stones):
    if not stones or any(k not in range(len(row)) for k in stones):
        return False
    steps = all(knocks(row, stones[k], stones[k + 1], push[1]) for k in range(len(stones) - 1))
    return stones[0] == push[0] and stones[-1] == stone and steps


def is_place_of_standing(row, push, stone, place):
    start, side = row[push[0]][0], push[1]
    if (place - start) * side < 0:
        return False
    low, high = min(start, place), max(start, place)
    if low <= row[stone][0] <= high:
        return False
    met = [(at, at + side * height) for at, height in row if low <= at <= high]
    return all((end - place) * side <= 0 for at, end in met)


def is_fewest(row, pushes, stones):
    falls = {push: felled_by_the_words(row, *push) for push in every_push(row)}
    if len(pushes) != len(stones) or any(push not in falls for push in pushes):
        return False
    if any(stone not in range(len(row)) for stone in stones):
        return False
    if {stone for push in pushes for stone in falls[push]} != set(range(len(row))):
        return False
    return all(sum(stone in fall for stone in stones) <= 1 for fall in falls.values())


def fewest_by_search(row):
    falls = [set(felled_by_the_words(row, *push)) for push in every_push(row)]
    for count in range(len(row) + 1):
        for chosen in itertools.combinations(falls, count):
            if len(set().union(*chosen)) == len(row):
                return count


def rights_by_the_words(row):
    return [
        stone for stone in range(len(row))
        if not any(knocks(row, other, stone, 1) for other in range(len(row)) if other != stone)
    ]


def standing_behind(row, stone, number):
    """The stones behind that stand where all are so much higher."""
    fallen = felled_by_the_words([(place, height + number) for place, height in row], stone, 1)
    return [k for k in range(stone + 1, len(row)) if k not in fallen]


def least_by_search(row, stone):
    number = 0
    while standing_behind(row, stone, number):
        number += 1
    return number


def is_higher(row, stone, number, told):
    if number < 0 or standing_behind(row, stone, number):
        return False
    if number == 0:
        return told is None
    return told in standing_behind(row, stone, number - 1)


class Refusing(unittest.TestCase):
    def refused(self, refusal, call, *given):
        with self.assertRaises(FallError) as caught:
            call(*given)
        self.assertIs(type(caught.exception), refusal)
        self.assertIsInstance(caught.exception, ValueError)
