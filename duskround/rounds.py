"""Rounds: pairs (end, pattern), both counted from where the round was begun."""

from duskround.errors import NoDeed
from duskround.lamps import added, moved, shows, tidy, timed


def still():
    """The round that does nothing."""
    return (0, ())


def gone(p, deeds):
    """The round that a row of deeds ("go", k) and ("turn", k) writes."""
    place = 0
    pairs = []
    for deed in deeds:
        word = deed[0]
        if word == "go":
            place += deed[1]
        elif word == "turn":
            pairs.append((place, deed[1]))
        else:
            raise NoDeed(f"no deed is called {word}")
    return (place, tidy(p, pairs))


def joined(p, one, other):
    """The first round and then, from where it ends, the other."""
    end, pattern = one
    more, behind = other
    return (end + more, added(p, pattern, moved(behind, end)))


def backward(p, one):
    """The way back: the round that undoes this one."""
    end, pattern = one
    # The way back begins where the round ends, so its lamps are counted from there.
    return (-end, timed(p, moved(pattern, -end), -1))


def repeated(p, one, n):
    """The round n times; below nought the way back as many times."""
    if n < 0:
        return repeated(p, backward(p, one), -n)
    end, pattern = one
    if end == 0:
        # Each time turns the same lamps: n may be of any size.
        return (0, timed(p, pattern, n))
    pairs = [(place + end * k, setting) for place, setting in pattern for k in range(n)]
    return (end * n, tidy(p, pairs))


def after(p, one, n, place):
    """The setting at a place when the round was gone n times from place 0 on a dark street."""
    end, pattern = one
    if end == 0:
        return shows(pattern, place) * n % p
    # A lamp of the round reaches the place in one of the n times at most: no need to go them all.
    total = 0
    for lit, setting in pattern:
        lap, rest = divmod(place - lit, end)
        if rest == 0 and 0 <= lap < n:
            total += setting
    return total % p


def lies_within(one, farthest_end, farthest_place):
    """True where a round ends and is lit no farther from 0 than told, else False."""
    end, pattern = one
    return abs(end) <= farthest_end and all([abs(place) <= farthest_place for place, setting in pattern])
