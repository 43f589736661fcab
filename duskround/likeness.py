"""Likeness: rounds seen from other rounds, roots, and quarrels."""

from duskround.lamps import added, moved, tidy, timed
from duskround.rounds import still
from duskround.sums import inverse

MOST_TIMES = 60


def columns(pattern, many):
    """The pairs of a pattern by the rests that their places leave by a number above 0."""
    found = {}
    for place, setting in pattern:
        found.setdefault(place % many, []).append((place, setting))
    return found


def folds(p, one):
    """The folds of a round."""
    end, pattern = one
    many = abs(end)
    if many == 0:
        return ()
    found = columns(pattern, many)
    return tuple([sum([setting for place, setting in found.get(rest, [])]) % p for rest in range(many)])


def evened(p, pattern, step):
    """The pattern which, less itself moved by a step, not 0, is the one that is handed in; None where there is none."""
    if step < 0:
        # A pattern less itself moved back is, moved on by as much, itself moved on less itself.
        ahead = evened(p, pattern, -step)
        return None if ahead is None else timed(p, moved(ahead, -step), -1)
    pairs = []
    for column in columns(pattern, step).values():
        total = 0
        here = column[0][0]
        for place, setting in column:
            # From one lamp to the next the settings so far stay as they are.
            if total != 0:
                pairs.extend([(between, total) for between in range(here, place, step)])
            total = (total + setting) % p
            here = place
        if total != 0:
            return None
    return tidy(p, pairs)


def less(p, one, other):
    """A pattern with another one undone."""
    return added(p, one, timed(p, other, -1))


def alike(p, one, other):
    """None where the first round isn't alike to the other; else a round from which it is seen as the other."""
    end, pattern = one
    more, wanted = other
    if end != more:
        return None
    if end == 0:
        return alike_still(pattern, wanted)
    # Seen from (b, g) the pattern f is f moved by b, and g less g moved by the end.
    for by in range(abs(end)):
        behind = evened(p, less(p, wanted, moved(pattern, by)), end)
        if behind is not None:
            return (by, behind)
    return None


def alike_still(pattern, wanted):
    """As `alike` for two rounds that end at 0: they can only be moved."""
    if not pattern or not wanted:
        return still() if pattern == wanted else None
    by = wanted[0][0] - pattern[0][0]
    return (by, ()) if moved(pattern, by) == wanted else None


def root(p, one, n):
    """An n-th root of a round, None where there is none."""
    end, pattern = one
    if end == 0:
        return root_still(p, pattern, n)
    if end % n != 0:
        return None
    # n copies of g, each moved by the root's end from the one ahead, are f just where
    # g less g moved by the whole end is f less f moved by the root's end.
    step = end // n
    found = evened(p, less(p, pattern, moved(pattern, step)), end)
    return None if found is None else (step, found)


def root_still(p, pattern, n):
    """As `root` for a round that ends at 0: its root ends there, too."""
    if not pattern:
        return still()
    if n % p == 0:
        return None
    return (0, timed(p, pattern, inverse(p, n % p)))


def exponents(p, one):
    """The list of all n for which there is an n-th root."""
    return [n for n in range(1, MOST_TIMES + 1) if root(p, one, n) is not None]


def quarrel(p, one):
    """Two rounds whose quarrel the round is, None where it is no quarrel."""
    end, pattern = one
    if end != 0:
        return None
    # (1, ()) and (0, g) quarrel to g moved by 1, less g; and whatever two rounds quarrel to has settings that add up
    # to 0, as such a difference has.
    found = evened(p, timed(p, pattern, -1), 1)
    return None if found is None else ((1, ()), (0, found))
