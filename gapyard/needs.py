"""What is needed: gaps that the others do not say already."""

from gapyard.rings import check_no_ring
from gapyard.ways import least_ways, way_by
from gapyard.yard import check_gap


def needless(yard, one, other):
    """A way of the other gaps that says this one, as a list of names, or None where it is needed."""
    check_gap(yard, one, other)
    check_no_ring(yard)
    gap = (one, other, yard.most(one, other))
    return _way_instead(_without(yard.gaps(), gap), gap)


def pared(yard):
    """The gaps that are left when, in their order, each one goes that those then left say."""
    check_no_ring(yard)
    gaps = yard.gaps()
    left = list(gaps)
    for gap in gaps:
        others = _without(left, gap)
        if _way_instead(others, gap) is not None:
            left = others
    return left


def _without(gaps, gap):
    return [row for row in gaps if row != gap]


def _way_instead(others, gap):
    """A way along other gaps of a length of at most the gap's most, or None."""
    one, other, most = gap
    lengths, sources = least_ways(others, one)
    if other in lengths and lengths[other] <= most:
        return way_by(sources, other)
    return None
