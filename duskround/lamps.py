"""Patterns: how far the lamps of a street were turned.

A pattern is a tuple of pairs (place, setting), places rising, none twice,
settings from 1 to p - 1; a place that isn't there has setting 0.
"""


def tidy(p, pairs):
    """The pattern that pairs (place, setting) make together."""
    turned = {}
    for place, setting in pairs:
        turned[place] = (turned.get(place, 0) + setting) % p
    return tuple([(place, turned[place]) for place in sorted(turned) if turned[place] != 0])


def shows(pattern, place):
    """The setting of the lamp at a place."""
    # Places rise, so halving finds one in a long pattern without walking it.
    low = 0
    high = len(pattern)
    while low < high:
        middle = (low + high) // 2
        if pattern[middle][0] < place:
            low = middle + 1
        else:
            high = middle
    if low < len(pattern) and pattern[low][0] == place:
        return pattern[low][1]
    return 0


def added(p, one, other):
    """Two patterns added lamp by lamp."""
    return tidy(p, list(one) + list(other))


def moved(pattern, by):
    """The pattern with each place grown by a number."""
    return tuple([(place + by, setting) for place, setting in pattern])


def timed(p, pattern, n):
    """The pattern with each setting n times as great, as a rest by p."""
    return tidy(p, [(place, setting * n) for place, setting in pattern])
