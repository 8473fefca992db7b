"""All standings of a field, one by one."""

from compassless.checks import require_field


def next_picks(picks, size):
    """The next ascending list of as many numbers below size, or None behind the last one."""
    many = len(picks)
    for at in range(many - 1, -1, -1):
        if picks[at] < size - many + at:
            low = picks[at] + 1
            return picks[:at] + list(range(low, low + many - at))
    return None


def field_standings(many, wide, high):
    """A generator of all standings of many places in the field, ascending."""
    require_field(many, wide, high)
    cells = [(x, y) for x in range(wide) for y in range(high)]
    picks = list(range(many)) if many <= len(cells) else None
    while picks is not None:
        yield tuple([cells[k] for k in picks])
        picks = next_picks(picks, len(cells))
