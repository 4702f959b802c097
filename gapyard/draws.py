"""How gaps draw moments towards each other until all gaps hold."""


def draw_round(gaps, numbers, sources):
    """Make each gap hold in its turn; tells the last moment that moved, or None.

    A moment that has no number stays without one until a gap leads to it from one that has.
    For each moment that moved, sources keeps the moment whose gap moved it.
    """
    moved = None
    for one, other, most in gaps:
        if one in numbers and _is_beyond(numbers, other, numbers[one] + most):
            numbers[other] = numbers[one] + most
            sources[other] = one
            moved = other
    return moved


def draw_out(gaps, numbers, sources):
    """Go round by round until all gaps hold, which they never do where they have a ring."""
    while draw_round(gaps, numbers, sources) is not None:
        pass


def _is_beyond(numbers, name, limit):
    return name not in numbers or limit < numbers[name]
