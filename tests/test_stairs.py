"""Promises [1], [8], [9] and [10]: columns, rests and stairs."""

import unittest

from duskround.stairs import built, column, low, rest_of, taken
from helper import (
    HUGE, SETTINGS, chance, check_pattern, check_stairs, check_untouched, column_of, drawn, lies_low, put_together,
    summed, within_steps,
)

STRIDES = range(9)


def mixed(source, p, stride, patterns):
    """Some moved copies of patterns, each some times, added."""
    parts = []
    for at in range(source.randint(1, 4)):
        shift = source.randint(-3, 3) if stride else 0
        parts.append((source.randrange(len(patterns)), shift, source.randint(1, p - 1)))
    return put_together(p, stride, patterns, parts)


def related(source, p, stride, many):
    """Patterns that have much in common: each is made of the same few."""
    few = [drawn(source, p, 7, 4) for which in range(source.randint(1, 3))]
    return [mixed(source, p, stride, few) for which in range(many)]


def some_patterns(source, p, stride):
    many = source.randint(0, 5)
    if source.random() < 0.5:
        return related(source, p, stride, many)
    return [drawn(source, p, source.choice((2, 6, 15)), source.choice((2, 4, 12))) for which in range(many)]


class TestStairs(unittest.TestCase):
    def check_parts(self, p, stride, many, parts):
        self.assertIs(type(parts), list)
        for part in parts:
            self.assertIs(type(part), tuple)
            self.assertEqual([type(number) for number in part], [int] * 3)
            which, shift, setting = part
            self.assertTrue(0 <= which < many, part)
            self.assertTrue(1 <= setting <= p - 1, part)
            if stride == 0:
                self.assertEqual(shift, 0)

    def check_taken(self, p, stride, stairs, pattern):
        told = check_untouched(self, taken, p, stride, stairs, pattern)
        self.assertIs(type(told), tuple)
        rest, parts = told
        check_pattern(self, p, rest)
        self.check_parts(p, stride, len(stairs), parts)
        self.assertTrue(lies_low(stride, stairs, rest))
        self.assertEqual(put_together(p, stride, stairs, parts, rest), pattern)
        self.assertEqual(rest_of(p, stride, stairs, pattern), rest)
        return rest

    def check_built(self, p, stride, patterns):
        """All that [10] asks; as there is just one such tuple, no other one can pass."""
        told = check_untouched(self, built, p, stride, patterns)
        self.assertIs(type(told), tuple)
        stairs, makers = told
        check_stairs(self, p, stride, stairs)
        self.assertIs(type(makers), list)
        self.assertEqual(len(makers), len(stairs))
        for at, stair in enumerate(stairs):
            self.check_parts(p, stride, len(patterns), makers[at])
            self.assertEqual(put_together(p, stride, patterns, makers[at]), stair)
            self.assertTrue(lies_low(stride, stairs[at + 1:], stair))
        for pattern in patterns:
            self.assertEqual(self.check_taken(p, stride, stairs, pattern), ())
        return stairs

    def some_stairs(self, source, p, stride):
        """Stairs that are drawn, not built: they need not lie low under those behind them."""
        firsts = source.sample(range(stride) if stride else range(-9, 10), source.randint(0, min(stride or 4, 4)))
        stairs = []
        for first in sorted(firsts):
            length = source.randint(0, 4) if stride else 0
            lamps = {first + stride * k: source.randint(0, p - 1) for k in range(length)}
            lamps[first] = source.randint(1, p - 1)
            lamps[first + stride * length] = 1
            behind = [place for place in range(-25, 26) if column_of(place, stride) > first]
            for place in source.sample(behind, source.randint(0, min(6, len(behind)))):
                lamps[place] = source.randint(1, p - 1)
            stairs.append(summed(p, lamps.items()))
        check_stairs(self, p, stride, tuple(stairs))
        return tuple(stairs)


class TestColumn(unittest.TestCase):
    def test_every_stride(self):
        for stride in range(11):
            for place in range(-70, 71):
                told = column(place, stride)
                self.assertIs(type(told), int)
                self.assertEqual(told, column_of(place, stride))

    def test_far_places(self):
        for place in (HUGE, -HUGE):
            self.assertEqual(column(place, 0), place)
            self.assertEqual([column(place, stride) for stride in range(1, 9)], [place % t for t in range(1, 9)])


class TestLow(TestStairs):
    def test_without_stairs_all_lie_low(self):
        for stride in STRIDES:
            for pattern in ((), ((-60, 1),), ((0, 1), (60, 1))):
                self.assertIs(low(stride, (), pattern), True)

    def test_the_edges_of_a_column(self):
        for stride in range(1, 9):
            for first in range(stride):
                for length in range(4):
                    stair = ((first, 1),) if length == 0 else ((first, 1), (first + length * stride, 1))
                    for place in range(-5 * stride, 6 * stride):
                        there = column_of(place, stride) == first
                        told = low(stride, (stair,), ((place, 1),))
                        self.assertIs(told, not there or first <= place < first + length * stride)

    def test_stride_nought(self):
        stairs = (((-3, 1), (4, 1)), ((2, 1),))
        told = {place: low(0, stairs, ((place, 1),)) for place in range(-6, 7)}
        self.assertEqual([place for place in told if not told[place]], [-3, 2])
        self.assertIs(low(0, stairs, ((-9, 1), (2, 1), (9, 1))), False)
        self.assertIs(low(0, stairs, ((-9, 1), (4, 1), (9, 1))), True)

    def test_drawn(self):
        source = chance(401)
        found = {True: 0, False: 0}
        for p in SETTINGS:
            for stride in STRIDES:
                for at in range(30):
                    stairs = self.some_stairs(source, p, stride)
                    pattern = drawn(source, p, 9, 3)
                    told = check_untouched(self, low, stride, stairs, pattern)
                    self.assertIs(told, lies_low(stride, stairs, pattern))
                    found[told] += 1
        self.assertGreater(min(found.values()), 100)


class TestRests(TestStairs):
    def test_written_examples(self):
        # 1 + y + y y: from there on three moves lead back.
        stairs = (((0, 1), (1, 1), (2, 1)),)
        cases = {-2: ((1, 1),), -1: ((0, 1), (1, 1)), 0: ((0, 1),), 1: ((1, 1),), 2: ((0, 1), (1, 1)), 3: ((0, 1),)}
        for place, rest in cases.items():
            self.assertEqual(rest_of(2, 1, stairs, ((place, 1),)), rest)
        # 2 + y by 5: one place on is 3 times as much, one back twice.
        stairs = (((0, 2), (1, 1)),)
        self.assertEqual([rest_of(5, 1, stairs, ((place, 1),)) for place in (-2, -1, 0, 1, 2)], [
            ((0, 4),), ((0, 2),), ((0, 1),), ((0, 3),), ((0, 4),),
        ])
        # The first stair lights the second one's column, which is cleared behind it.
        stairs = (((0, 1), (3, 1)), ((1, 1),))
        self.assertEqual(taken(3, 2, stairs, ((4, 2),)), ((), [(0, 2, 2), (1, 3, 1)]))
        self.assertEqual(rest_of(3, 0, (((-1, 1), (5, 1)),), ((-1, 2), (5, 1))), ((5, 2),))

    def test_without_stairs_the_rest_is_the_pattern(self):
        source = chance(402)
        for p in SETTINGS:
            for stride in STRIDES:
                pattern = drawn(source, p, 60, 9)
                self.assertEqual(taken(p, stride, (), pattern), (pattern, []))

    def test_drawn_stairs_and_patterns(self):
        source = chance(403)
        for p in SETTINGS:
            for stride in STRIDES:
                for at in range(25):
                    stairs = self.some_stairs(source, p, stride)
                    self.check_taken(p, stride, stairs, drawn(source, p, source.choice((5, 20, 60)), 12))

    def test_what_lies_low_is_its_own_rest(self):
        source = chance(404)
        for p in SETTINGS:
            for stride in STRIDES:
                for at in range(15):
                    stairs = self.some_stairs(source, p, stride)
                    rest = rest_of(p, stride, stairs, drawn(source, p, 20, 12))
                    self.assertEqual(taken(p, stride, stairs, rest), (rest, []))

    def test_one_rest_for_all_that_differ_by_copies(self):
        source = chance(405)
        for p in SETTINGS:
            for stride in STRIDES:
                for at in range(15):
                    stairs = self.some_stairs(source, p, stride)
                    pattern = drawn(source, p, 20, 8)
                    more = mixed(source, p, stride, stairs) if stairs else ()
                    other = summed(p, pattern + more)
                    self.assertEqual(rest_of(p, stride, stairs, other), rest_of(p, stride, stairs, pattern))
                    self.assertEqual(rest_of(p, stride, stairs, more), ())

    def test_lamps_that_lie_far_apart(self):
        for p in SETTINGS:
            stairs = (((0, 1), (1, 1)), ((2, 1),))
            pattern = ((-3 * HUGE, 1), (1, 1), (3 * HUGE + 2, p - 1))
            rest, parts = within_steps(2000, taken, p, 3, stairs, pattern)
            self.assertEqual(rest, ((1 - 3 * HUGE, p - 1), (1, 1)))
            self.assertEqual(sorted(parts), [(0, -HUGE, 1), (1, HUGE, p - 1)])

    def test_full_patterns(self):
        source = chance(406)
        for p in SETTINGS:
            for stride in STRIDES:
                stairs = self.some_stairs(source, p, stride)
                full = tuple((place, source.randint(1, p - 1)) for place in range(-60, 61))
                self.check_taken(p, stride, stairs, full)
                self.check_taken(p, stride, stairs, ())


class TestBuilt(TestStairs):
    def test_of_nothing_there_are_no_stairs(self):
        for p in SETTINGS:
            for stride in STRIDES:
                for many in (0, 1, 2, 8):
                    self.assertEqual(built(p, stride, [()] * many), ((), []))

    def test_written_examples_with_one_column(self):
        for p in SETTINGS:
            self.assertEqual(built(p, 1, [((5, p - 1),)]), ((((0, 1),),), [[(0, -5, p - 1)]]))
            one, other = ((-4, p - 1), (-2, 1)), ((3, 1), (4, 1))
            # The first is y y - 1, moved, which the other, 1 + y, divides.
            self.assertEqual(self.check_built(p, 1, [one, other]), (((0, 1), (1, 1)),))
            self.assertEqual(self.check_built(p, 1, [one]), (((0, p - 1), (2, 1)),))
            self.assertEqual(self.check_built(p, 1, [one, ((7, 1),)]), (((0, 1),),))

    def test_written_examples_with_several_columns(self):
        for p in SETTINGS:
            stairs = self.check_built(p, 2, [((0, 1), (1, 1)), ((0, 1), (3, 1))])
            self.assertEqual(stairs, (((0, 1), (1, 1)), ((1, p - 1), (3, 1))))
            stairs = self.check_built(p, 3, [((-1, 1),), ((0, 1), (5, 1))])
            self.assertEqual(stairs, (((0, 1),), ((2, 1),)))
            stairs = self.check_built(p, 8, [((-60, 1), (60, 1))])
            self.assertEqual(stairs, (((4, 1), (124, 1)),))
            # Column 5 is the first one here, and the lamp of column 6 goes along.
            stairs = self.check_built(p, 7, [((-9, p - 1), (-8, 1))])
            self.assertEqual(stairs, (((5, 1), (6, p - 1)),))

    def test_written_examples_with_stride_nought(self):
        rows = [((-3, 2), (5, 1)), ((-3, 1), (5, 2), (7, 1))]
        self.assertEqual(self.check_built(5, 0, rows), (((-3, 1), (7, 3)), ((5, 1), (7, 4))))
        self.assertEqual(self.check_built(2, 0, [((1, 1), (2, 1)), ((2, 1),)]), (((1, 1),), ((2, 1),)))
        self.assertEqual(self.check_built(3, 0, [((4, 2), (60, 1))] * 3), (((4, 1), (60, 2)),))
        self.assertEqual(built(7, 0, [(), ((-60, 3),)]), ((((-60, 1),),), [[(1, 0, 5)]]))

    def test_drawn_patterns(self):
        source = chance(407)
        for p in SETTINGS:
            for stride in STRIDES:
                for at in range(20):
                    self.check_built(p, stride, some_patterns(source, p, stride))

    def test_one_form_however_the_patterns_are_exchanged(self):
        source = chance(408)
        for p in SETTINGS:
            for stride in STRIDES:
                for at in range(12):
                    patterns = some_patterns(source, p, stride)
                    stairs = built(p, stride, patterns)[0]
                    others = [pattern for pattern in patterns for time in range(source.randint(1, 2))] + [()]
                    source.shuffle(others)
                    self.assertEqual(built(p, stride, others)[0], stairs)

    def test_one_form_however_the_patterns_are_moved_and_turned(self):
        source = chance(409)
        for p in SETTINGS:
            for stride in STRIDES:
                for at in range(12):
                    patterns = some_patterns(source, p, stride)
                    stairs = built(p, stride, patterns)[0]
                    others = []
                    for which in range(len(patterns)):
                        part = (which, source.randint(-5, 5) if stride else 0, source.randint(1, p - 1))
                        others.append(put_together(p, stride, patterns, [part]))
                    self.assertEqual(self.check_built(p, stride, others), stairs)

    def test_one_form_however_the_patterns_are_put_together(self):
        source = chance(410)
        for p in SETTINGS:
            for stride in STRIDES:
                for at in range(12):
                    patterns = some_patterns(source, p, stride)
                    if not patterns:
                        continue
                    stairs = built(p, stride, patterns)[0]
                    # Whatever is made of the others is added to one: it can be taken away again.
                    which = source.randrange(len(patterns))
                    rest = patterns[:which] + patterns[which + 1:]
                    more = mixed(source, p, stride, rest) if rest else ()
                    others = rest + [summed(p, patterns[which] + more)]
                    self.assertEqual(self.check_built(p, stride, others), stairs)
                    self.assertEqual(built(p, stride, patterns + [mixed(source, p, stride, patterns)])[0], stairs)

    def test_the_stairs_of_stairs_are_those_stairs(self):
        source = chance(411)
        for p in SETTINGS:
            for stride in STRIDES:
                for at in range(8):
                    patterns = some_patterns(source, p, stride)
                    stairs = built(p, stride, patterns)[0]
                    self.assertEqual(self.check_built(p, stride, list(stairs)), stairs)
                    rest = rest_of(p, stride, stairs, drawn(source, p, 60, 9))
                    self.check_built(p, stride, list(stairs) + [rest])

    def test_unlike_stairs_where_a_pattern_is_no_sum_of_copies(self):
        source = chance(412)
        for p in SETTINGS:
            for stride in STRIDES:
                for at in range(8):
                    patterns = some_patterns(source, p, stride)
                    stairs = built(p, stride, patterns)[0]
                    pattern = drawn(source, p, 9, 4)
                    same = built(p, stride, patterns + [pattern])[0] == stairs
                    self.assertEqual(same, rest_of(p, stride, stairs, pattern) == ())

    def test_eight_full_patterns(self):
        source = chance(413)
        for p in SETTINGS:
            for stride in STRIDES:
                for many in (3, 8):
                    places = range(-60, 61)
                    patterns = [tuple((q, source.randint(1, p - 1)) for q in places) for which in range(many)]
                    self.check_built(p, stride, patterns)

    def test_eight_patterns_of_few_lamps(self):
        source = chance(414)
        for p in SETTINGS:
            for stride in STRIDES:
                self.check_built(p, stride, [drawn(source, p, 60, 4) for which in range(8)])
                self.check_built(p, stride, related(source, p, stride, 8))

    def test_somewhat_beyond_the_bounds(self):
        source = chance(415)
        for p in SETTINGS:
            for stride in (0, 3, 9, 10):
                self.check_built(p, stride, [drawn(source, p, 80, 6) for which in range(9)])

    def test_a_list_that_is_changed_afterwards(self):
        for p in SETTINGS:
            patterns = [((0, 1), (1, 1))]
            told = built(p, 1, patterns)
            patterns.append(((0, 1),))
            self.assertEqual(told, ((((0, 1), (1, 1)),), [[(0, 0, 1)]]))
            self.assertEqual(built(p, 1, patterns)[0], (((0, 1),),))


if __name__ == "__main__":
    unittest.main()
