"""Sums: tuples of numbers 0 to p - 1, lowest first and the last one not 0; (a, b, c) is a + b y + c y y."""

from duskround.errors import NoughtDivisor


def trimmed(p, row):
    """The sum of a list of any numbers, lowest first."""
    numbers = [number % p for number in row]
    while numbers and numbers[-1] == 0:
        numbers.pop()
    return tuple(numbers)


def inverse(p, setting):
    """The setting by which one from 1 to p - 1 comes to 1, as a rest by p."""
    # p - 1 times itself a setting comes to 1, p being prime: one time less gives the inverse.
    found = 1
    for at in range(p - 2):
        found = found * setting % p
    return found


def plus(p, one, other):
    """Two sums added."""
    row = [0] * max(len(one), len(other))
    for at, number in enumerate(one):
        row[at] += number
    for at, number in enumerate(other):
        row[at] += number
    return trimmed(p, row)


def product(p, one, other):
    """Two sums multiplied."""
    row = [0] * (len(one) + len(other))
    for at, number in enumerate(one):
        for by, factor in enumerate(other):
            row[at + by] += number * factor
    return trimmed(p, row)


def parted(p, one, other):
    """A tuple (quotient, rest): one is quotient times other, and rest, which is shorter than other."""
    if not other:
        raise NoughtDivisor("the nought parts no sum")
    left = list(one)
    many = max(len(one) - len(other) + 1, 0)
    quotient = [0] * many
    last = inverse(p, other[-1])
    for at in range(many - 1, -1, -1):
        factor = left[at + len(other) - 1] * last % p
        quotient[at] = factor
        for by, number in enumerate(other):
            left[at + by] = (left[at + by] - factor * number) % p
    return (trimmed(p, quotient), trimmed(p, left))


def less(p, one, factor, other):
    """A sum, less a factor times another one."""
    return plus(p, one, product(p, product(p, factor, other), (p - 1,)))


def common(p, one, other):
    """A tuple (g, u, v): g divides both and is u times one and v times other together."""
    # In each row of three the first is the second times one and the third times other.
    g, u, v = one, (1,), ()
    next_g, next_u, next_v = other, (), (1,)
    while next_g:
        quotient, rest = parted(p, g, next_g)
        g, next_g = next_g, rest
        u, next_u = next_u, less(p, u, quotient, next_u)
        v, next_v = next_v, less(p, v, quotient, next_v)
    if not g:
        return ((), (), ())
    unit = (inverse(p, g[-1]),)
    return (product(p, g, unit), product(p, u, unit), product(p, v, unit))
