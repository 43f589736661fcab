"""The fewest single deeds that do a round, and rows of so many."""

from duskround.errors import NoDeed, TooLong
from duskround.rounds import gone, joined

# The order is the one in which `farther` tells them.
SINGLE_DEEDS = {"on": ("go", 1), "back": ("go", -1), "up": ("turn", 1), "down": ("turn", -1)}
LONGEST_ROW = 500


def price(p, setting):
    """What a setting costs."""
    return min(setting % p, -setting % p)


def reach(one):
    """The lowest and the highest place to which whoever goes a round must come."""
    end, pattern = one
    places = [0, end]
    if pattern:
        places.extend([pattern[0][0], pattern[-1][0]])
    return (min(places), max(places))


def way(low, high, end):
    """The steps of the shortest way from 0 to an end that comes to both places, low first where it ends ahead."""
    # The stretch from low to high is gone at least once; what lies away from the end is gone twice.
    return 2 * (high - low) - abs(end)


def fewest(p, one):
    """The least number of single deeds in a row that does a round."""
    end, pattern = one
    low, high = reach(one)
    return way(low, high, end) + sum([price(p, setting) for place, setting in pattern])


def walked(p, row):
    """The round that a list of single deeds does."""
    deeds = []
    for word in row:
        if word not in SINGLE_DEEDS:
            raise NoDeed(f"no single deed is called {word}")
        deeds.append(SINGLE_DEEDS[word])
    return gone(p, deeds)


def steps(start, stop):
    """The single deeds from one place to another."""
    if start <= stop:
        return ["on"] * (stop - start)
    return ["back"] * (start - stop)


def turns(p, setting):
    """The single deeds that turn a lamp by a setting, the shorter way round the ring."""
    if setting <= p - setting:
        return ["up"] * setting
    return ["down"] * (p - setting)


def shortest(p, one):
    """A list of single deeds that does a round, as many as its fewest."""
    if fewest(p, one) > LONGEST_ROW:
        raise TooLong(f"the round takes more than {LONGEST_ROW} single deeds")
    end, pattern = one
    low, high = reach(one)
    # First away from the end, so that only this side is gone twice; every lamp lies between the two turning points.
    if end >= 0:
        stops = [(low, 0)] + list(pattern) + [(high, 0), (end, 0)]
    else:
        stops = [(high, 0)] + list(pattern)[::-1] + [(low, 0), (end, 0)]
    row = []
    here = 0
    for place, setting in stops:
        row.extend(steps(here, place))
        row.extend(turns(p, setting))
        here = place
    return row


def farther(p, one):
    """Those single deeds which, done behind a round, lead to one whose fewest is greater."""
    now = fewest(p, one)
    return [word for word in SINGLE_DEEDS if fewest(p, joined(p, one, walked(p, [word]))) > now]


def spread(p, free, lit, most):
    """How many settings of lamps cost 0, 1, .., most together: some lamps are free, the others must be lit."""
    ways = [1] + [0] * most
    for lamp in range(free + lit):
        grown = [0] * (most + 1)
        for setting in range(0 if lamp < free else 1, p):
            cost = price(p, setting)
            for total in range(cost, most + 1):
                grown[total] += ways[total - cost]
        ways = grown
    return ways


def many_at(p, n):
    """How many rounds have the fewest n."""
    # Rounds are told apart by their reach and end; a turning point that is neither begin nor end must be lit.
    known = {}
    many = 0
    for low in range(-n, 1):
        for high in range(n + low + 1):
            for end in range(low, high + 1):
                left = n - way(low, high, end)
                if left < 0:
                    continue
                lit = int(low < min(0, end)) + int(high > max(0, end))
                free = high - low + 1 - lit
                if (free, lit) not in known:
                    known[(free, lit)] = spread(p, free, lit, n)
                many += known[(free, lit)][left]
    return many
