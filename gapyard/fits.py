"""Fits: numbers of the moments by which all gaps hold."""

from gapyard.draws import draw_out
from gapyard.errors import Unfit
from gapyard.names import is_whole
from gapyard.rings import check_no_ring
from gapyard.ways import least_ways
from gapyard.yard import check_moments


def is_fit(yard, thing):
    """Whether the thing is a dict of a whole number for each moment, by which all gaps hold."""
    if type(thing) != dict or not _is_of_names(thing, yard.names()):
        return False
    if not all(is_whole(thing[name]) for name in thing):
        return False
    return all(_slack(thing, gap) >= 0 for gap in yard.gaps())


def fit(yard):
    """A fit of the yard in which the start has 0."""
    check_no_ring(yard)
    names = yard.names()
    numbers = {name: 0 for name in names}
    draw_out(yard.gaps(), numbers, {})
    start = numbers[names[0]]
    return {name: numbers[name] - start for name in names}


def latest(yard):
    """Pairs of each moment and the greatest number it has in fits in which the start has 0, or None."""
    check_no_ring(yard)
    names = yard.names()
    lengths, _ = least_ways(yard.gaps(), names[0])
    return [(name, lengths.get(name)) for name in names]


def earliest(yard):
    """Pairs of each moment and the least number it has in fits in which the start has 0, or None."""
    check_no_ring(yard)
    names = yard.names()
    # Gaps turned round: so the ways from each moment to the start are found all at once.
    turned = [(other, one, most) for one, other, most in yard.gaps()]
    lengths, _ = least_ways(turned, names[0])
    return [(name, -lengths[name] if name in lengths else None) for name in names]


def slips(yard, given, name):
    """How far the moment may go down, and up, while all others stay as given; None is any far."""
    if not is_fit(yard, given):
        raise Unfit("what is given is no fit of the yard")
    check_moments(yard, [name])
    down = [_slack(given, gap) for gap in yard.gaps() if gap[0] == name]
    up = [_slack(given, gap) for gap in yard.gaps() if gap[1] == name]
    return (min(down, default=None), min(up, default=None))


def _is_of_names(thing, names):
    # Only texts are looked up or sorted: other keys could be equal to what they like.
    for key in thing:
        if type(key) != str:
            return False
    return sorted(thing) == sorted(names)


def _slack(numbers, gap):
    """How far the gap is from not holding any more; below nought where it does not hold."""
    one, other, most = gap
    return most - (numbers[other] - numbers[one])
