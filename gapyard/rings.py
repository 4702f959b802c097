"""Rings: rows of moments whose gaps lead round at less than nothing."""

from gapyard.draws import draw_round
from gapyard.errors import Ring


def ring(yard):
    """A ring of the yard, as a list of names, or None where there is none."""
    names = yard.names()
    gaps = yard.gaps()
    numbers = {name: 0 for name in names}
    sources = {}
    moved = None
    # Without a ring all gaps hold after fewer rounds than there are moments,
    # for no moment is drawn along a way that comes by a moment twice.
    for _ in names:
        moved = draw_round(gaps, numbers, sources)
        if moved is None:
            return None
    return _ring_behind(moved, sources, len(names))


def check_no_ring(yard):
    """Refuse a yard that has a ring."""
    row = ring(yard)
    if row is not None:
        raise Ring(row)


def _ring_behind(name, sources, many):
    """The ring that is met by going from each moment to its source."""
    # The way back may begin outside of the ring; many steps surely lead into it.
    for _ in range(many):
        name = sources[name]
    row = [name]
    source = sources[name]
    while source != name:
        row.append(source)
        source = sources[source]
    # Gaps lead from the source on, and the row was gathered the other way.
    row.reverse()
    return row
