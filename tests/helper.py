"""What the tests share: yards, answers by trying all there is, and things of many kinds that are refused."""

import itertools
import unittest

from gapyard.errors import Ring
from gapyard.yard import Yard

GREATEST = 10 ** 60
LETTERS = [chr(ord("a") + place) for place in range(20)]


def yard_with(names, gaps):
    yard = Yard(names)
    for one, other, most in gaps:
        yard.put(one, other, most)
    return yard


def yard_round(names, mosts):
    """A yard whose gaps lead once round all the names."""
    return yard_with(names, zip(names, names[1:] + names[:1], mosts))


def row_yard(names, most):
    """A yard whose gaps lead from each name to the next one, with the same most."""
    return yard_with(names, [(one, other, most) for one, other in zip(names, names[1:])])


def tight_yard(numbers):
    """A yard of all gaps there may be, in whose fits all lie as far apart as in these numbers."""
    pairs = itertools.permutations(numbers, 2)
    return yard_with(list(numbers), [(one, other, numbers[other] - numbers[one]) for one, other in pairs])


def all_three_moment_yards(mosts):
    """All yards of three moments, each gap with one of the mosts (None is no gap)."""
    pairs = list(itertools.permutations("bac", 2))
    for chosen in itertools.product(mosts, repeat=6):
        gaps = [(*pair, most) for pair, most in zip(pairs, chosen) if most is not None]
        yield yard_with(["b", "a", "c"], gaps)


def chance_yard(chance, many, low, high):
    """A yard of so many moments with some of the gaps there may be, mosts from low to high."""
    names = chance.sample(LETTERS, many)
    pairs = list(itertools.permutations(names, 2))
    chosen = chance.sample(pairs, chance.randint(0, len(pairs)))
    return yard_with(names, [(one, other, chance.randint(low, high)) for one, other in chosen])


def chance_fit_yard(chance, many, share, slack):
    """A yard without a ring, and a fit of it; about that share of all gaps, each slack by up to that much."""
    numbers = {name: chance.randint(-3 * slack - 3, 3 * slack + 3) for name in chance.sample(LETTERS, many)}
    yard = Yard(list(numbers))
    for one, other in itertools.permutations(numbers, 2):
        if chance.random() < share:
            yard.put(one, other, numbers[other] - numbers[one] + chance.randint(0, slack))
    return yard, numbers


def is_ring(yard, row):
    if type(row) is not list or len(row) < 2 or len(set(row)) < len(row):
        return False
    mosts = [yard.most(one, other) for one, other in zip(row, row[1:] + row[:1])]
    return None not in mosts and sum(mosts) < 0


def has_ring(yard):
    """Whether there is a ring, by trying each row of moments."""
    names = yard.names()
    return any(
        is_ring(yard, list(row))
        for many in range(2, len(names) + 1)
        for row in itertools.permutations(names, many)
    )


def length_of(gaps, row):
    """What the mosts along the row come to, or None where it is no way."""
    if type(row) is not list or not row or len(set(row)) < len(row):
        return None
    mosts = {(one, other): most for one, other, most in gaps}
    steps = list(zip(row, row[1:]))
    if not all(step in mosts for step in steps):
        return None
    return sum(mosts[step] for step in steps)


def tried_bound(names, gaps, one, other):
    """The bound by trying each row of moments from one to other."""
    if one == other:
        return 0
    between = [name for name in names if name not in (one, other)]
    lengths = [
        length_of(gaps, [one, *row, other])
        for many in range(len(between) + 1)
        for row in itertools.permutations(between, many)
    ]
    return min((length for length in lengths if length is not None), default=None)


def all_bounds(names, gaps):
    """The bounds of all pairs by taking in one moment after another, for yards too great to try each row."""
    bounds = {(one, other): most for one, other, most in gaps}
    bounds.update({(name, name): 0 for name in names})
    for mid, one, other in itertools.product(names, repeat=3):
        if (one, mid) in bounds and (mid, other) in bounds:
            length = bounds[(one, mid)] + bounds[(mid, other)]
            bounds[(one, other)] = min(length, bounds.get((one, other), length))
    return bounds


def holds(yard, numbers):
    """Whether all gaps hold by the numbers."""
    return all(numbers[other] - numbers[one] <= most for one, other, most in yard.gaps())


class YardCase(unittest.TestCase):
    """Asks a yard, and looks whether it stays as it is."""

    def told(self, yard, ask, *given):
        """What is told where nothing is refused."""
        before = (yard.names(), yard.gaps())
        told = ask(yard, *given)
        self.assertEqual((yard.names(), yard.gaps()), before)
        return told

    def refused(self, error, yard, ask, *given):
        """The error, which must be of just this class."""
        before = (yard.names(), yard.gaps())
        with self.assertRaises(error) as caught:
            ask(yard, *given)
        self.assertIs(type(caught.exception), error)
        self.assertEqual((yard.names(), yard.gaps()), before)
        return caught.exception

    def refused_by_ring(self, yard, ask, *given):
        """Refused with a ring that is the asker's own."""
        first = self.refused(Ring, yard, ask, *given).ring
        self.assertTrue(is_ring(yard, first), first)
        first.clear()
        second = self.refused(Ring, yard, ask, *given).ring
        self.assertTrue(is_ring(yard, second), second)
        self.assertEqual(first, [])


class Quarrelsome:
    """Cannot be compared, hashed, measured, iterated or shown."""

    __hash__ = None

    def __eq__(self, other):
        raise RuntimeError("compared")

    def __len__(self):
        raise RuntimeError("measured")

    def __iter__(self):
        raise RuntimeError("iterated")

    def __bool__(self):
        raise RuntimeError("tested")

    def __repr__(self):
        raise RuntimeError("shown")

    __str__ = __repr__
    __lt__ = __le__ = __gt__ = __ge__ = __eq__


class Agreeable:
    """Is equal to everything."""

    __hash__ = None

    def __eq__(self, other):
        return True


class Pretender:
    """Gives itself out for a text."""

    __class__ = str


class QuarrelsomeText(str):
    """A text that cannot be measured or gone through."""

    __len__ = Quarrelsome.__len__
    __iter__ = Quarrelsome.__iter__
    __eq__ = Quarrelsome.__eq__
    __hash__ = None


class QuarrelsomeDict(dict):
    """A dict that cannot be measured, gone through or looked into."""

    __len__ = Quarrelsome.__len__
    __iter__ = Quarrelsome.__iter__
    __eq__ = Quarrelsome.__eq__
    __hash__ = None
    __getitem__ = __contains__ = get = keys = values = items = Quarrelsome.__eq__


OF_NO_USE = [
    None, True, False, 1.0, 0.5, float("nan"), float("inf"), 1j, b"", b"a", bytearray(b"a"),
    [], ["a"], ["a", "b"], [["a"]], (), ("a",), ("a", "b"), {}, {"a": 1}, set(), {"a"}, frozenset(["a"]),
    range(3), iter(["a"]), object(), len, str, int, Yard, Yard(["a"]), ValueError("a"), NotImplemented, ...,
    Quarrelsome(), Agreeable(), Pretender(), QuarrelsomeText("a"),
    QuarrelsomeDict({"a": 1}),
]

NO_NAMES = OF_NO_USE + [
    0, 1, -1, 10 ** 60, "", "abcdefghi", "a" * 1000, "A", "Abc", "abC", "a1", "1", "a b", " a", "a ", " ", "a_b",
    "a-b", "a.b", "`", "{", "@", "[", "a\n", "\na", "\n", "a\t", "a\0",
]

NO_NUMBERS = OF_NO_USE + [
    10 ** 60 + 1, -(10 ** 60) - 1, 10 ** 61, -(10 ** 61), 10 ** 3000, 1e60, "", "1", "-1", "a", b"1",
]

NO_LISTS = [thing for thing in OF_NO_USE if type(thing) is not list] + [
    0, 1, "", "a", "abc", {"a": True, "b": True}, {"b": 0},
]
