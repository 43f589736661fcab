"""Stairs: the one form to which a row of patterns is brought, column by column.

The height of a place is the count of strides from its column's own number up to it.
"""

from duskround.lamps import tidy
from duskround.sums import inverse


class Row:
    """A pattern in the making (settings by place), and its parts (for each which: settings by shift)."""

    def __init__(self, lamps, parts):
        self.lamps = lamps
        self.parts = parts


class Stair:
    """A row that is a stair, with what is asked of its first column again and again."""

    def __init__(self, row, first, length, foot):
        self.lamps = row.lamps
        self.parts = row.parts
        self.first = first
        self.length = length
        # By so much the lowest lamp of the first column comes to 1.
        self.foot = foot


def column(place, stride):
    """A place's column."""
    if stride == 0:
        return place
    return place % stride


def first_column(places, stride):
    """The least column of some places, None where there is none."""
    return min([column(place, stride) for place in places], default=None)


def heights(places, stride, first):
    """The heights of those places that lie in a column, rising."""
    if stride == 0:
        return [0 for place in places if place == first]
    return sorted([place // stride for place in places if place % stride == first])


def measured(stride, stair):
    """A tuple of a stair's first column and its length."""
    places = [place for place, setting in stair]
    first = first_column(places, stride)
    # A stair stands at height 0 in its first column: its highest lamp there tells the length.
    return (first, heights(places, stride, first)[-1])


def low(stride, stairs, pattern):
    """True where a pattern lies low under stairs, else False."""
    lit = [place for place, setting in pattern]
    for stair in stairs:
        first, length = measured(stride, stair)
        if any([height < 0 or height >= length for height in heights(lit, stride, first)]):
            return False
    return True


def add_shifted(p, held, others, by, n):
    """Adds to the settings that are held others, with their keys grown by a number, n times; n is no rest of 0."""
    for key, setting in others.items():
        now = (held.get(key + by, 0) + setting * n) % p
        if now != 0:
            held[key + by] = now
        else:
            # It was held: n times a setting alone never comes to nought, p being prime.
            del held[key + by]


def add_moved(p, stride, row, other, shift, n):
    """Adds to a row another one, moved by so many strides, n times."""
    add_shifted(p, row.lamps, other.lamps, stride * shift, n)
    for which, settings in other.parts.items():
        add_shifted(p, row.parts.setdefault(which, {}), settings, shift, n)


def too_high_or_low(found, length):
    """The heights to be cleared in a column, in the order in which a stair of that length clears them."""
    if length == 0 or not found:
        # Nothing new is lit there on the way: lamps that lie far apart take few steps.
        return found
    # From above copies reach down to 0 at most, from below up to the length less one: neither lights the other's.
    return list(range(found[-1], length - 1, -1)) + list(range(found[0], 0))


def cut(p, stride, row, stair):
    """Takes moved copies of a stair from a row until that lies low in the stair's first column."""
    found = heights(list(row.lamps), stride, stair.first)
    for height in too_high_or_low(found, stair.length):
        setting = row.lamps.get(stair.first + height * stride, 0)
        if setting == 0:
            continue
        if height < 0:
            add_moved(p, stride, row, stair, height, -setting * stair.foot)
        else:
            add_moved(p, stride, row, stair, height - stair.length, -setting)


def stood(p, stride, row):
    """The stair that a row, not dark, gives: moved to its place and turned until its highest lamp there shows 1."""
    first = first_column(list(row.lamps), stride)
    found = heights(list(row.lamps), stride, first)
    turn = inverse(p, row.lamps[first + found[-1] * stride])
    upright = Row({}, {})
    add_moved(p, stride, upright, row, -found[0], turn)
    return Stair(upright, first, found[-1] - found[0], inverse(p, upright.lamps[first]))


def told_parts(p, parts, n):
    """The list of parts (which, shift, setting) that are held, each n times."""
    return [
        (which, shift, parts[which][shift] * n % p)
        for which in sorted(parts)
        for shift in sorted(parts[which])
    ]


def taken(p, stride, stairs, pattern):
    """A tuple (rest, parts): the rest of a pattern under stairs, and the copies of stairs that were taken from it."""
    row = Row(dict(pattern), {})
    for which, stair in enumerate(stairs):
        cut(p, stride, row, stood(p, stride, Row(dict(stair), {which: {0: 1}})))
    # The row's parts were added on the way to the rest: the way back to the pattern undoes them.
    return (tidy(p, list(row.lamps.items())), told_parts(p, row.parts, -1))


def rest_of(p, stride, stairs, pattern):
    """The rest of a pattern under stairs."""
    return taken(p, stride, stairs, pattern)[0]


def take_in(p, stride, held, row):
    """Brings a row in among the stairs that are held by their first columns."""
    first = first_column(list(row.lamps), stride)
    while first is not None:
        if first not in held:
            held[first] = stood(p, stride, row)
            return
        stair = held[first]
        cut(p, stride, row, stair)
        left = first_column(list(row.lamps), stride)
        if left == first:
            # The row is the shorter one now: it stays as the stair, and the longer one goes on in its stead.
            held[first] = stood(p, stride, row)
            row = Row(stair.lamps, stair.parts)
        first = left


def lie_low(p, stride, held):
    """Makes each stair lie low under the stairs behind it."""
    firsts = sorted(held)
    for at in range(len(firsts) - 1, -1, -1):
        for behind in firsts[at + 1:]:
            cut(p, stride, held[firsts[at]], held[behind])


def built(p, stride, patterns):
    """A tuple (stairs, makers): the stairs of a row of patterns, and for each the parts of which it is made."""
    held = {}
    for which, pattern in enumerate(patterns):
        take_in(p, stride, held, Row(dict(pattern), {which: {0: 1}}))
        # Stairs that lie low stay small, and so does whatever the next pattern meets.
        lie_low(p, stride, held)
    firsts = sorted(held)
    stairs = tuple([tidy(p, list(held[first].lamps.items())) for first in firsts])
    return (stairs, [told_parts(p, held[first].parts, 1) for first in firsts])
