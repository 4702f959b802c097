"""The yard: moments by name, and the gaps between them."""

from gapyard.errors import Alike, BadName, BadNumber, NoGap, NoMoment
from gapyard.names import is_name, is_number

MOST_MOMENTS = 20


class Yard:
    """1 to 20 moments, of which the first one is the start, and the gaps between them."""

    def __init__(self, names):
        _check_names(names)
        self._names = list(names)
        self._mosts = {}

    def names(self):
        """The names of the moments, in their order."""
        return list(self._names)

    def put(self, one, other, most):
        """Let other lie at most most behind one; tells the most that was there, or None."""
        check_pair(self, one, other)
        if not is_number(most):
            raise BadNumber("a most is a whole number from -10 ** 60 to 10 ** 60")
        earlier = self._mosts.get((one, other))
        self._mosts[(one, other)] = most
        return earlier

    def take(self, one, other):
        """Let the gap from one to other go; tells its most."""
        check_gap(self, one, other)
        return self._mosts.pop((one, other))

    def most(self, one, other):
        """The most of the gap from one to other, or None where there is no such gap."""
        check_pair(self, one, other)
        return self._mosts.get((one, other))

    def gaps(self):
        """The gaps as tuples (one, other, most), in the order of one, then of other."""
        return [
            (one, other, self._mosts[(one, other)])
            for one in self._names
            for other in self._names
            if (one, other) in self._mosts
        ]


def check_gap(yard, one, other):
    """Refuse what is not two unlike moments of the yard with a gap from one to other."""
    if yard.most(one, other) is None:
        raise NoGap(f"no gap from {one} to {other}")


def check_pair(yard, one, other):
    """Refuse what is not two unlike moments of the yard."""
    check_moments(yard, [one, other])
    if one == other:
        raise Alike(f"{one} is handed in twice")


def check_moments(yard, given):
    """Refuse what is not a row of moments of the yard, alike or not."""
    # All are asked to be names before any is looked up: so is the order of the refusals.
    _check_all_names(given)
    names = yard.names()
    for name in given:
        if name not in names:
            raise NoMoment(name)


def _check_names(names):
    if type(names) != list or not 1 <= len(names) <= MOST_MOMENTS:
        raise BadName("a yard is made of a list of 1 to 20 names")
    _check_all_names(names)
    if len(set(names)) < len(names):
        raise Alike("a name stands twice among the moments")


def _check_all_names(given):
    for thing in given:
        if not is_name(thing):
            raise BadName("a name is a text of 1 to 8 letters a to z")
