"""Ways: rows of moments along gaps, and the least that they come to."""

from gapyard.draws import draw_out
from gapyard.rings import check_no_ring
from gapyard.yard import check_moments


def bound(yard, one, other):
    """The least length of a way from one to other, or None where there is no way."""
    check_moments(yard, [one, other])
    check_no_ring(yard)
    lengths, _ = least_ways(yard.gaps(), one)
    return lengths.get(other)


def way(yard, one, other):
    """A way from one to other of the least length, as a list of names, or None where there is none."""
    check_moments(yard, [one, other])
    check_no_ring(yard)
    lengths, sources = least_ways(yard.gaps(), one)
    if other not in lengths:
        return None
    return way_by(sources, other)


def least_ways(gaps, one):
    """The least lengths of ways from one on, and the source of each moment on them.

    What no way leads to has no length; the gaps must have no ring.
    """
    lengths = {one: 0}
    sources = {}
    draw_out(gaps, lengths, sources)
    return lengths, sources


def way_by(sources, name):
    """The way to the moment of this name, from the only one on it that has no source."""
    row = [name]
    while name in sources:
        name = sources[name]
        row.append(name)
    row.reverse()
    return row
