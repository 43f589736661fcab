"""Promises [16], [17] and [18]: rounds seen from others, folds, roots and quarrels."""

import itertools
import unittest

from duskround.likeness import alike, exponents, folds, quarrel, root
from duskround.sums import parted, trimmed
from helper import SETTINGS, chance, check_round, check_untouched, column_of, drawn, put_in_row, summed, way_back

STILL = (0, ())
ENDS = (0, 1, -1, 2, -2, 3, -5, 6, 7, -12, 24, 30, -49, 59, 60, -60)


def some_lit(source, p):
    return drawn(source, p, source.choice((3, 12, 60, 200)), source.choice((1, 3, 9, 60)))


def full_lit(source, p):
    return tuple((place, source.randint(1, p - 1)) for place in range(-200, 201))


def seen_from(p, seer, one):
    return put_in_row(p, [seer, one, way_back(p, seer)])


def added_up(p, one):
    """The folds, summed up place by place."""
    many = abs(one[0])
    sums = [0] * many
    for place, setting in one[1] if many else ():
        sums[column_of(place, many)] += setting
    return tuple(number % p for number in sums)


def all_patterns(p, low, high):
    """Every pattern that is lit only from one place to another."""
    places = range(low, high + 1)
    for settings in itertools.product(range(p), repeat=len(places)):
        yield tuple((place, setting) for place, setting in zip(places, settings) if setting)


def has_root(p, one, n):
    """Whether there is an n-th root, by parting sums column by column."""
    end, pattern = one
    if end == 0:
        return pattern == () or n % p != 0
    if end % n:
        return False
    step = abs(end) // n
    lit = dict(pattern)
    copies = (1,) * n
    for column in range(step):
        row = [lit.get(place, 0) for place in range(-200 * step + column, 200 * step + step, step)]
        if parted(p, trimmed(p, row), copies)[1] != ():
            return False
    return True


class TestFolds(unittest.TestCase):
    def test_written_examples(self):
        for p in SETTINGS:
            self.assertEqual(folds(p, STILL), ())
            self.assertEqual(folds(p, (0, ((3, 1),))), ())
            self.assertEqual(folds(p, (3, ())), (0, 0, 0))
            self.assertEqual(folds(p, (1, ((-5, 1), (5, p - 1)))), (0,))
            self.assertEqual(folds(p, (-3, ((-1, 1), (4, p - 1)))), (0, p - 1, 1))
            self.assertEqual(folds(p, (2, ((-4, 1), (-2, 1), (1, 1)))), (2 % p, 1))

    def test_drawn_rounds(self):
        source = chance(601)
        for p in SETTINGS:
            for end in list(range(-60, 61)) + [61, -70]:
                one = (end, some_lit(source, p))
                told = check_untouched(self, folds, p, one)
                self.assertIs(type(told), tuple)
                self.assertEqual({type(number) for number in told} - {int}, set())
                self.assertEqual(told, added_up(p, one))

    def test_full_rounds(self):
        source = chance(602)
        for p in SETTINGS:
            for end in ENDS:
                one = (end, full_lit(source, p))
                self.assertEqual(folds(p, one), added_up(p, one))


class TestAlike(unittest.TestCase):
    def check_alike(self, p, one, other):
        """The told round leads from the one to the other; None just where the folds can't be turned to fit."""
        told = check_untouched(self, alike, p, one, other)
        end = one[0]
        if told is not None:
            check_round(self, p, told)
            self.assertEqual(seen_from(p, told, one), other)
        if end != other[0]:
            fits = False
        elif end == 0:
            moves = {second[0] - first[0] for first in one[1][:1] for second in other[1][:1]} | {0}
            fits = other[1] in [tuple((place + by, setting) for place, setting in one[1]) for by in moves]
        else:
            first, second = added_up(p, one), added_up(p, other)
            fits = any(first[by:] + first[:by] == second for by in range(abs(end)))
        self.assertIs(told is not None, fits)
        return told

    def test_written_examples(self):
        for p in SETTINGS:
            cases = (
                (STILL, STILL, True),
                (STILL, (0, ((0, 1),)), False),
                ((0, ((0, 1),)), STILL, False),
                ((0, ((0, 1),)), (0, ((200, 1),)), True),
                ((0, ((0, 1), (1, 1))), (0, ((-7, 1), (-6, 1))), True),
                ((0, ((0, 1), (1, 1))), (0, ((-7, 1), (-5, 1))), False),
                ((0, ((0, 1),)), (0, ((0, 1), (1, 1))), False),
                ((1, ()), (-1, ()), False),
                ((1, ()), (2, ()), False),
                ((1, ()), (1, ((0, 1),)), False),
                ((1, ()), (1, ((0, 1), (9, p - 1))), True),
                ((-1, ()), (-1, ((0, 1), (9, p - 1))), True),
                ((2, ((0, 1),)), (2, ((1, 1),)), True),
                ((-2, ((0, 1),)), (-2, ((-99, 1),)), True),
                ((2, ((0, 1), (1, 1))), (2, ((0, 1),)), False),
                ((3, ((0, 1), (1, p - 1))), (3, ((1, p - 1), (0 + 3, 1))), True),
            )
            for one, other, fits in cases:
                other = (other[0], summed(p, other[1]))
                self.assertIs(self.check_alike(p, one, other) is not None, fits, (p, one, other))

    def test_a_round_is_alike_to_what_is_seen_of_it(self):
        source = chance(611)
        for p in SETTINGS:
            for end in ENDS:
                for at in range(6):
                    one = (end, some_lit(source, p))
                    seer = (source.randint(-70, 70), drawn(source, p, 60, 8))
                    other = seen_from(p, seer, one)
                    self.assertIsNotNone(self.check_alike(p, one, other))
                    self.assertIsNotNone(self.check_alike(p, other, one))
                    self.assertIsNotNone(self.check_alike(p, one, one))

    def test_drawn_pairs(self):
        source = chance(612)
        found = {True: 0, False: 0}
        for p in SETTINGS:
            for end in (0, 0, 1, -1, 2, -2, 3, -3, 4):
                for at in range(30):
                    one, other = (end, drawn(source, p, 6, 3)), (end, drawn(source, p, 6, 3))
                    found[self.check_alike(p, one, other) is not None] += 1
                    self.check_alike(p, one, (source.choice((-end, end + 1, 0)), other[1]))
        self.assertGreater(min(found.values()), 100)

    def test_no_small_round_leads_where_none_is_told(self):
        for p in (2, 3):
            seers = [(end, lit) for end in range(-2, 3) for lit in all_patterns(p, -1, 1)]
            rounds = [(end, lit) for end in (-2, -1, 0, 1, 2) for lit in all_patterns(p, 0, 2)][::3]
            for one in rounds:
                reached = {seen_from(p, seer, one) for seer in seers}
                for other in rounds:
                    if alike(p, one, other) is None:
                        self.assertNotIn(other, reached)

    def test_full_rounds_at_the_bounds(self):
        source = chance(613)
        for p in SETTINGS:
            for end in ENDS:
                one = (end, full_lit(source, p))
                other = (end, full_lit(source, p))
                self.check_alike(p, one, other)
                # One lamp of each column is turned until the folds fit.
                wanted, had = added_up(p, one), added_up(p, other)
                more = [(rest, wanted[rest - 1] - had[rest]) for rest in range(abs(end))]
                self.check_alike(p, one, (end, summed(p, list(other[1]) + more)))


class TestRoot(unittest.TestCase):
    def check_root(self, p, one, n):
        """A root n times is the round; None just where sums can't be parted."""
        told = check_untouched(self, root, p, one, n)
        self.assertIs(told is not None, has_root(p, one, n), (p, one, n))
        if told is not None:
            check_round(self, p, told)
            self.assertEqual(put_in_row(p, [told] * n), one)
        return told

    def test_written_examples(self):
        for p in SETTINGS:
            for n in range(1, 61):
                self.assertEqual(root(p, STILL, n), STILL)
                self.assertIs(self.check_root(p, (0, ((0, 1),)), n) is None, n % p == 0)
                self.assertEqual(root(p, (60, ()), n), (60 // n, ()) if 60 % n == 0 else None)
                self.assertEqual(root(p, (-60, ()), n), (-60 // n, ()) if 60 % n == 0 else None)
            self.assertEqual(root(p, (2, ((0, 1), (1, 1))), 2), (1, ((0, 1),)))
            self.assertEqual(root(p, (-2, ((0, 1), (-1 + 2, 1))), 2), (-1, ((1, 1),)))
            self.assertIsNone(root(p, (2, ((0, 1),)), 2))
            self.assertIsNone(root(p, (3, ((0, 1), (1, 1))), 2))

    def test_once_the_round_itself(self):
        source = chance(621)
        for p in SETTINGS:
            for end in ENDS:
                one = (end, some_lit(source, p))
                self.assertEqual(root(p, one, 1), one)

    def test_rounds_that_were_gone_several_times(self):
        source = chance(622)
        for p in SETTINGS:
            for n in range(1, 61):
                for step in {-60 // n, 60 // n, 1, -1, 0}:
                    one = (step, drawn(source, p, 60, 8))
                    whole = put_in_row(p, [one] * n)
                    told = self.check_root(p, whole, n)
                    if step != 0:
                        # Its root is the one that there is.
                        self.assertEqual(told, one)

    def test_drawn_rounds_and_exponents(self):
        source = chance(623)
        for p in SETTINGS:
            for end in ENDS:
                for at in range(3):
                    n = source.choice([k for k in range(1, 61) if end % k == 0])
                    one = (end // n, drawn(source, p, 40, 5))
                    for whole in (put_in_row(p, [one] * n), (end, some_lit(source, p))):
                        told = check_untouched(self, exponents, p, whole)
                        self.assertIs(type(told), list)
                        self.assertEqual({type(k) for k in told}, {int})
                        self.assertEqual(told, [k for k in range(1, 61) if self.check_root(p, whole, k) is not None])

    def test_exponents_of_written_rounds(self):
        for p in SETTINGS:
            self.assertEqual(exponents(p, STILL), list(range(1, 61)))
            self.assertEqual(exponents(p, (0, ((-200, 1),))), [n for n in range(1, 61) if n % p])
            self.assertEqual(exponents(p, (60, ())), [n for n in range(1, 61) if 60 % n == 0])
            self.assertEqual(exponents(p, (-59, ())), [1, 59])
            self.assertEqual(exponents(p, (1, ((0, 1),))), [1])
            self.assertEqual(exponents(p, (60, ((0, 1),))), [1])

    def test_full_rounds_at_the_bounds(self):
        source = chance(624)
        for p in SETTINGS:
            for end in (60, -60, 0):
                one = (end, full_lit(source, p))
                self.assertEqual(exponents(p, one), [n for n in range(1, 61) if self.check_root(p, one, n) is not None])

    def test_every_small_round(self):
        for p in (2, 3):
            for step, n in ((1, 2), (-1, 2), (1, 3), (2, 2), (-1, 3)):
                roots = [(step, lit) for lit in all_patterns(p, -3, 3)]
                wholes = {put_in_row(p, [one] * n): one for one in roots}
                for lit in all_patterns(p, -2, 2):
                    # A root is lit nowhere beyond the round itself: there are no others than those.
                    whole = (step * n, lit)
                    self.assertEqual(self.check_root(p, whole, n), wholes.get(whole))


class TestQuarrel(unittest.TestCase):
    def check_quarrel(self, p, one):
        """The told rounds' quarrel is the round; None just where it doesn't end at 0 or its settings don't add up."""
        told = check_untouched(self, quarrel, p, one)
        fits = one[0] == 0 and sum(setting for place, setting in one[1]) % p == 0
        self.assertIs(told is not None, fits)
        if told is not None:
            self.assertIs(type(told), tuple)
            self.assertEqual(len(told), 2)
            for part in told:
                check_round(self, p, part)
            first, second = told
            self.assertEqual(put_in_row(p, [first, second, way_back(p, first), way_back(p, second)]), one)
        return told

    def test_written_examples(self):
        for p in SETTINGS:
            self.assertIsNotNone(self.check_quarrel(p, STILL))
            self.assertIsNone(self.check_quarrel(p, (1, ())))
            self.assertIsNone(self.check_quarrel(p, (-60, ((0, 1), (1, p - 1)))))
            self.assertIsNone(self.check_quarrel(p, (0, ((0, 1),))))
            self.assertIsNotNone(self.check_quarrel(p, (0, ((0, 1), (1, p - 1)))))
            self.assertIsNotNone(self.check_quarrel(p, (0, ((-200, 1), (200, p - 1)))))
            self.assertIsNotNone(self.check_quarrel(p, (0, tuple((place, 1) for place in range(p)))))
            self.assertIsNone(self.check_quarrel(p, (0, tuple((place, 1) for place in range(p + 1)))))

    def test_quarrels_of_drawn_rounds(self):
        source = chance(631)
        for p in SETTINGS:
            for at in range(100):
                first, second = [(source.randint(-30, 30), drawn(source, p, 60, 8)) for which in range(2)]
                one = put_in_row(p, [first, second, way_back(p, first), way_back(p, second)])
                self.assertIsNotNone(self.check_quarrel(p, one))

    def test_drawn_rounds(self):
        source = chance(632)
        for p in SETTINGS:
            for at in range(60):
                self.check_quarrel(p, (0, some_lit(source, p)))
                self.check_quarrel(p, (source.randint(-60, 60), some_lit(source, p)))

    def test_full_rounds(self):
        source = chance(633)
        for p in SETTINGS:
            one = (0, full_lit(source, p))
            self.check_quarrel(p, one)
            total = sum(setting for place, setting in one[1])
            self.assertIsNotNone(self.check_quarrel(p, (0, summed(p, list(one[1]) + [(3, -total)]))))
            self.assertIsNone(self.check_quarrel(p, (0, summed(p, list(one[1]) + [(3, 1 - total)]))))


if __name__ == "__main__":
    unittest.main()
