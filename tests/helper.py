"""What the tests share: settings, made-up rounds, a street that is really walked, a bound on steps."""

import copy
import functools
import random
import sys

SETTINGS = (2, 3, 5, 7)
HUGE = 10 ** 30 - 1
VAST = 10 ** 300 + 7


class TooManySteps(AssertionError):
    """A call took more steps than the bound."""


def within_steps(limit, call, *things):
    """What a call tells; it fails, and doesn't hang, where it takes more than so many lines."""
    taken = [0]

    def count(frame, event, arg):
        taken[0] += 1
        if taken[0] > limit:
            raise TooManySteps(f"more than {limit} steps")
        return count

    before = sys.gettrace()
    sys.settrace(count)
    try:
        return call(*things)
    finally:
        sys.settrace(before)


def chance(seed):
    """A source of made-up inputs that is the same in every run."""
    return random.Random(seed)


def some_pairs(source, many=8, reach=9):
    """A list of pairs, out of order, with places that come again and settings of any size."""
    return [(source.randint(-reach, reach), source.randint(-25, 25)) for at in range(source.randint(0, many))]


def some_pattern(source, p, reach=9):
    """A pattern that is made without the program."""
    places = sorted(source.sample(range(-reach, reach + 1), source.randint(0, 7)))
    return tuple((place, source.randint(1, p - 1)) for place in places)


def some_round(source, p):
    return (source.randint(-6, 6), some_pattern(source, p))


def some_deeds(source, many=12):
    words = ("go", "turn")
    return [(source.choice(words), source.randint(-9, 9)) for at in range(source.randint(0, many))]


def check_pattern(case, p, pattern):
    """Just a tuple of tuples of two whole numbers, places rising, settings from 1 to p - 1."""
    case.assertIs(type(pattern), tuple)
    for pair in pattern:
        case.assertIs(type(pair), tuple)
        case.assertEqual(len(pair), 2)
        case.assertIs(type(pair[0]), int)
        case.assertIs(type(pair[1]), int)
        case.assertTrue(1 <= pair[1] <= p - 1, pair)
    places = [place for place, setting in pattern]
    case.assertEqual(places, sorted(set(places)))


def check_round(case, p, one):
    """Just a tuple of an end and a pattern."""
    case.assertIs(type(one), tuple)
    case.assertEqual(len(one), 2)
    case.assertIs(type(one[0]), int)
    check_pattern(case, p, one[1])


class Street:
    """A street whose lamps are turned one setting, and whose places are gone one step, at a time."""

    def __init__(self, p):
        self.p = p
        self.place = 0
        self.lamps = {}

    def turn(self, k):
        for at in range(abs(k)):
            now = self.lamps.get(self.place, 0) + (1 if k > 0 else self.p - 1)
            self.lamps[self.place] = now - self.p if now >= self.p else now

    def go(self, k):
        for at in range(abs(k)):
            self.place += 1 if k > 0 else -1

    def walk(self, deeds):
        for word, k in deeds:
            if word == "go":
                self.go(k)
            else:
                self.turn(k)

    def walk_round(self, one):
        """Goes a round from here: to each lamp and back, then to the end."""
        end, pattern = one
        for place, setting in pattern:
            self.walk([("go", place), ("turn", setting), ("go", -place)])
        self.go(end)

    def pattern(self):
        return tuple((place, self.lamps[place]) for place in sorted(self.lamps) if self.lamps[place])

    def told(self):
        return (self.place, self.pattern())


@functools.lru_cache(maxsize=None)
def column_of(place, stride):
    """A column found by going up or down by strides, not by parting."""
    while stride and place < 0:
        place += stride
    while stride and place >= stride:
        place -= stride
    return place


def summed(p, pairs):
    """The pattern that pairs make together."""
    lamps = {}
    for place, setting in pairs:
        lamps[place] = lamps.get(place, 0) + setting
    return tuple((place, lamps[place] % p) for place in sorted(lamps) if lamps[place] % p)


def way_back(p, one):
    end, pattern = one
    return (-end, tuple((place - end, p - setting) for place, setting in pattern))


def beyond(one, farthest_end, farthest_place):
    """Whether a round ends or is lit farther from 0 than told."""
    return abs(one[0]) > farthest_end or any(abs(place) > farthest_place for place, setting in one[1])


def put_in_row(p, rounds):
    """The round of some rounds one behind the other: as `walked_rounds`, without a step for each place."""
    here = 0
    pairs = []
    for end, pattern in rounds:
        pairs += [(place + here, setting) for place, setting in pattern]
        here += end
    return (here, summed(p, pairs))


def put_together(p, stride, patterns, parts, rest=()):
    """A rest and the patterns of some parts, each moved and so many times, added lamp by lamp."""
    pairs = list(rest)
    for which, shift, setting in parts:
        pairs += [(place + stride * shift, lamp * setting) for place, lamp in patterns[which]]
    return summed(p, pairs)


def first_and_lit(pattern, stride):
    """The first column of a pattern, and the pairs that it has there."""
    first = min(column_of(place, stride) for place, setting in pattern)
    return first, [pair for pair in pattern if column_of(pair[0], stride) == first]


def length_of(pattern, stride):
    lit = first_and_lit(pattern, stride)[1]
    return (lit[-1][0] - lit[0][0]) // stride if stride else 0


def lies_low(stride, stairs, pattern):
    """Whether a pattern lies low, by the places that [9] tells for each stair."""
    for stair in stairs:
        first = first_and_lit(stair, stride)[0]
        free = [first + stride * k for k in range(length_of(stair, stride))]
        if any(column_of(place, stride) == first and place not in free for place, setting in pattern):
            return False
    return True


def drawn(source, p, reach, many):
    """A pattern of at most so many lamps."""
    places = source.sample(range(-reach, reach + 1), min(source.randint(0, many), 2 * reach + 1))
    return tuple((place, source.randint(1, p - 1)) for place in sorted(places))


def check_stair(case, p, stride, stair):
    check_pattern(case, p, stair)
    case.assertNotEqual(stair, ())
    first, lit = first_and_lit(stair, stride)
    case.assertEqual(lit[-1][1], 1)
    case.assertEqual(lit[0][0], first)


def check_stairs(case, p, stride, stairs):
    """Just a tuple of stairs as [9] tells them."""
    case.assertIs(type(stairs), tuple)
    for stair in stairs:
        check_stair(case, p, stride, stair)
    firsts = [first_and_lit(stair, stride)[0] for stair in stairs]
    case.assertEqual(firsts, sorted(set(firsts)))


def walked_rounds(p, rounds):
    """The round that some rounds, gone one behind the other, do."""
    street = Street(p)
    for one in rounds:
        street.walk_round(one)
    return street.told()


def check_refused(case, kind, call, *things):
    """A call is refused with just that class, and what was handed in stays as it was."""
    before = copy.deepcopy(things)
    with case.assertRaises(kind) as held:
        call(*things)
    case.assertIs(type(held.exception), kind)
    case.assertEqual(things, before)


def check_untouched(case, call, *things):
    """What a call tells; what was handed in stays as it was, and what is done to the answer harms no later one."""
    before = copy.deepcopy(things)
    told = call(*things)
    case.assertEqual(things, before)
    kept = copy.deepcopy(told)
    spoil(call(*things))
    case.assertEqual(things, before)
    case.assertEqual(told, kept)
    case.assertEqual(call(*things), kept)
    return told


def spoil(told):
    """Empties every list in what was told."""
    if isinstance(told, (list, tuple)):
        for thing in told:
            spoil(thing)
    if isinstance(told, list):
        told.clear()
