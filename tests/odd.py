"""Things of many kinds, for the tests of what is refused."""

from gapyard.yard import Yard


class Quarrelsome:
    """Cannot be compared, hashed, measured, iterated or shown."""

    __hash__ = None

    def __eq__(self, other):
        raise RuntimeError("compared")

    def __len__(self):
        raise RuntimeError("measured")

    def __iter__(self):
        raise RuntimeError("iterated")

    def __bool__(self):
        raise RuntimeError("tested")

    def __repr__(self):
        raise RuntimeError("shown")

    __str__ = __repr__
    __lt__ = __le__ = __gt__ = __ge__ = __eq__


class Agreeable:
    """Is equal to everything."""

    __hash__ = None

    def __eq__(self, other):
        return True


class Pretender:
    """Gives itself out for a text."""

    __class__ = str


class QuarrelsomeText(str):
    """A text that cannot be measured or gone through."""

    __len__ = Quarrelsome.__len__
    __iter__ = Quarrelsome.__iter__
    __eq__ = Quarrelsome.__eq__
    __hash__ = None


OF_NO_USE = [
    None, True, False, 1.0, 0.5, float("nan"), float("inf"), 1j, b"", b"a", bytearray(b"a"),
    [], ["a"], ["a", "b"], [["a"]], (), ("a",), ("a", "b"), {}, {"a": 1}, set(), {"a"}, frozenset(["a"]),
    range(3), iter(["a"]), object(), len, str, int, Yard, Yard(["a"]), ValueError("a"), NotImplemented, ...,
    Quarrelsome(), Agreeable(), Pretender(), QuarrelsomeText("a"),
]

NO_NAMES = OF_NO_USE + [
    0, 1, -1, 10 ** 60, "", "abcdefghi", "a" * 1000, "A", "Abc", "abC", "a1", "1", "a b", " a", "a ", " ", "a_b",
    "a-b", "a.b", "`", "{", "@", "[", "a\n", "\na", "\n", "a\t", "a\0",
]

NO_NUMBERS = OF_NO_USE + [
    10 ** 60 + 1, -(10 ** 60) - 1, 10 ** 61, -(10 ** 61), 10 ** 3000, 1e60, "", "1", "-1", "a", b"1",
]

NO_LISTS = [thing for thing in OF_NO_USE if type(thing) is not list] + [
    0, 1, "", "a", "abc", {"a": True, "b": True}, {"b": 0},
]
