"""Promises [1] and [7]: sums."""

import unittest

from duskround import errors
from duskround.sums import common, inverse, parted, plus, product, trimmed
from helper import HUGE, SETTINGS, VAST, chance, check_refused, check_untouched


def cut_off(row):
    """A row without the noughts at its end, as a tuple."""
    while row and row[-1] == 0:
        row = row[:-1]
    return tuple(row)


def times_each(p, one, other):
    """A product reckoned number by number: each is the sum over all pairs whose places add up to its own."""
    long = len(one) + len(other)
    pairs = [[(at, by) for at in range(len(one)) for by in range(len(other)) if at + by == k] for k in range(long)]
    return cut_off([sum(one[at] * other[by] for at, by in row) % p for row in pairs])


def together(p, one, other):
    """Two sums added, number by number."""
    long = max(len(one), len(other))
    pad = [list(row) + [0] * (long - len(row)) for row in (one, other)]
    return cut_off([(a + b) % p for a, b in zip(*pad)])


def some_sum(source, p, most=8):
    return cut_off([source.randint(0, p - 1) for at in range(source.randint(0, most))])


def long_sum(source, p, degree):
    return tuple(source.randint(0, p - 1) for at in range(degree)) + (source.randint(1, p - 1),)


def every_sum(p, most):
    """Every sum of at most so many numbers."""
    rows = [()]
    for at in range(most):
        rows += [row + (number,) for row in rows if len(row) == at for number in range(p)]
    return sorted({cut_off(row) for row in rows})


class TestSums(unittest.TestCase):
    def check_sum(self, p, told):
        self.assertIs(type(told), tuple)
        self.assertTrue(all(type(number) is int and 0 <= number < p for number in told), told)
        self.assertTrue(told == () or told[-1] != 0, told)


class TestTrimmed(TestSums):
    def test_written_examples(self):
        for p in SETTINGS:
            self.assertEqual(trimmed(p, []), ())
            self.assertEqual(trimmed(p, [0, 0, 0]), ())
            self.assertEqual(trimmed(p, [p, -p, 2 * p]), ())
            self.assertEqual(trimmed(p, [0, 1]), (0, 1))
            self.assertEqual(trimmed(p, [1, 0, p]), (1,))
            self.assertEqual(trimmed(p, [-1, p + 1]), (p - 1, 1))
        self.assertEqual(trimmed(5, [7, 0, -3, 10]), (2, 0, 2))

    def test_numbers_of_thirty_figures_and_more(self):
        for p in SETTINGS:
            self.assertEqual(trimmed(p, [p * HUGE + 1, -p * HUGE - 1, p * HUGE]), (1, p - 1))
            self.assertEqual(trimmed(p, [HUGE, -HUGE, VAST]), cut_off([HUGE % p, -HUGE % p, VAST % p]))

    def test_drawn_rows(self):
        source = chance(201)
        for p in SETTINGS:
            for at in range(200):
                row = [source.randint(-30, 30) for number in range(source.randint(0, 10))]
                told = check_untouched(self, trimmed, p, row)
                self.check_sum(p, told)
                self.assertEqual(told, cut_off([number % p for number in row]))

    def test_full_rows(self):
        for p in SETTINGS:
            self.assertEqual(trimmed(p, [1] * 60), (1,) * 60)
            self.assertEqual(trimmed(p, [p] * 60), ())
            self.assertEqual(trimmed(p, [1] + [0] * 399), (1,))


class TestInverse(TestSums):
    def test_each_setting(self):
        told = {p: [inverse(p, setting) for setting in range(1, p)] for p in SETTINGS}
        self.assertEqual(told, {2: [1], 3: [1, 2], 5: [1, 3, 2, 4], 7: [1, 4, 5, 2, 3, 6]})
        for p in SETTINGS:
            for setting in range(1, p):
                self.assertIs(type(inverse(p, setting)), int)
                self.assertEqual(setting * inverse(p, setting) % p, 1)


class TestPlus(TestSums):
    def test_written_examples(self):
        for p in SETTINGS:
            self.assertEqual(plus(p, (), ()), ())
            self.assertEqual(plus(p, (1,), (p - 1,)), ())
            self.assertEqual(plus(p, (0, 1, 1), (0, 0, p - 1)), (0, 1))
            self.assertEqual(plus(p, (1,), (0, 0, 1)), (1, 0, 1))
        self.assertEqual(plus(7, (5, 6), (4, 3, 1)), (2, 2, 1))

    def test_drawn_sums(self):
        source = chance(202)
        for p in SETTINGS:
            for at in range(200):
                one, other = some_sum(source, p), some_sum(source, p)
                told = plus(p, one, other)
                self.check_sum(p, told)
                self.assertEqual(told, together(p, one, other))
                self.assertEqual(plus(p, other, one), told)
                self.assertEqual(plus(p, one, ()), one)
                self.assertEqual(plus(p, (), one), one)


class TestProduct(TestSums):
    def test_written_examples(self):
        for p in SETTINGS:
            self.assertEqual(product(p, (), ()), ())
            self.assertEqual(product(p, (), (1, 1)), ())
            self.assertEqual(product(p, (1, 1), ()), ())
            self.assertEqual(product(p, (0, 1), (0, 0, 1)), (0, 0, 0, 1))
            self.assertEqual(product(p, (1, 1), (p - 1, 1)), (p - 1, 0, 1))
        self.assertEqual(product(2, (1, 1), (1, 1)), (1, 0, 1))
        self.assertEqual(product(7, (2, 3), (4, 5)), (1, 1, 1))

    def test_drawn_sums(self):
        source = chance(203)
        for p in SETTINGS:
            for at in range(200):
                one, other, third = [some_sum(source, p) for which in range(3)]
                told = product(p, one, other)
                self.check_sum(p, told)
                self.assertEqual(told, times_each(p, one, other))
                self.assertEqual(product(p, other, one), told)
                self.assertEqual(product(p, one, (1,)), one)
                self.assertEqual(product(p, one, plus(p, other, third)), plus(p, told, product(p, one, third)))

    def test_of_the_greatest_degree(self):
        source = chance(204)
        for p in SETTINGS:
            one, other = long_sum(source, p, 60), long_sum(source, p, 60)
            self.assertEqual(product(p, one, other), times_each(p, one, other))
            self.assertEqual(len(product(p, one, other)), 121)


class TestParted(TestSums):
    def check(self, p, one, other):
        told = parted(p, one, other)
        self.assertIs(type(told), tuple)
        quotient, rest = told
        self.check_sum(p, quotient)
        self.check_sum(p, rest)
        self.assertLess(len(rest), len(other))
        self.assertEqual(together(p, times_each(p, quotient, other), rest), one)
        return told

    def test_written_examples(self):
        for p in SETTINGS:
            self.assertEqual(parted(p, (), (1,)), ((), ()))
            self.assertEqual(parted(p, (), (0, 1)), ((), ()))
            self.assertEqual(parted(p, (p - 1, 0, 1), (1, 1)), ((p - 1, 1), ()))
            self.assertEqual(parted(p, (1, 1), (0, 0, 1)), ((), (1, 1)))
            self.assertEqual(parted(p, (0, 0, 0, 1), (p - 1, 1)), ((1, 1, 1), (1,)))
        self.assertEqual(parted(5, (1, 2, 3), (2,)), ((3, 1, 4), ()))
        self.assertEqual(parted(7, (3, 0, 1), (1, 2)), ((5, 4), (5,)))

    def test_all_small_sums(self):
        for p, most in ((2, 5), (3, 3), (5, 2), (7, 2)):
            sums = every_sum(p, most)
            for one in sums:
                for other in sums:
                    if other:
                        self.check(p, one, other)

    def test_drawn_sums(self):
        source = chance(205)
        for p in SETTINGS:
            for at in range(300):
                other = some_sum(source, p)
                if other:
                    self.check(p, some_sum(source, p, 14), other)

    def test_of_the_greatest_degree(self):
        source = chance(206)
        for p in SETTINGS:
            for degree in (0, 1, 30, 59, 60):
                self.check(p, long_sum(source, p, 60), long_sum(source, p, degree))
            self.check(p, long_sum(source, p, 10), long_sum(source, p, 60))

    def test_a_multiple_leaves_nothing(self):
        source = chance(207)
        for p in SETTINGS:
            for at in range(100):
                one, other = some_sum(source, p), long_sum(source, p, source.randint(0, 6))
                self.assertEqual(parted(p, times_each(p, one, other), other), (one, ()))

    def test_the_nought_parts_nothing(self):
        for p in SETTINGS:
            for one in ((), (1,), (0, 1), (1,) * 61):
                check_refused(self, errors.NoughtDivisor, parted, p, one, ())
            for setting in range(1, p):
                self.check(p, (1, 1), (setting,))


class TestCommon(TestSums):
    def check(self, p, one, other):
        told = common(p, one, other)
        self.assertIs(type(told), tuple)
        g, u, v = told
        for row in told:
            self.check_sum(p, row)
            self.assertLessEqual(len(row), 201)
        self.assertEqual(together(p, times_each(p, u, one), times_each(p, v, other)), g)
        if not one and not other:
            self.assertEqual(g, ())
            return g
        self.assertEqual(g[-1], 1)
        # What divides both divides u times one and v times other together: so no common divisor is greater than g.
        for row in (one, other):
            quotient, rest = parted(p, row, g)
            self.assertEqual(rest, ())
            self.assertEqual(times_each(p, quotient, g), row)
        return g

    def test_written_examples(self):
        for p in SETTINGS:
            self.assertEqual(common(p, (), ())[0], ())
            self.check(p, (), ())
            self.assertEqual(self.check(p, (0, p - 1), ()), (0, 1))
            self.assertEqual(self.check(p, (), (0, p - 1)), (0, 1))
            self.assertEqual(self.check(p, (p - 1,), (0, 0, 1)), (1,))
            self.assertEqual(self.check(p, (0, 0, 1), (0, 1, 1)), (0, 1))
            self.assertEqual(self.check(p, (p - 1, 0, 1), (1, 2 % p, 1)), (1, 1) if p > 2 else (1, 0, 1))
        self.assertEqual(self.check(5, (2, 4), (3, 1)), (3, 1))

    def test_all_small_sums(self):
        for p, most in ((2, 4), (3, 3), (5, 2), (7, 2)):
            sums = every_sum(p, most)
            for one in sums:
                for other in sums:
                    self.check(p, one, other)

    def test_drawn_sums_with_a_part_in_common(self):
        source = chance(208)
        for p in SETTINGS:
            for at in range(200):
                part = long_sum(source, p, source.randint(0, 5))
                one, other = [times_each(p, part, some_sum(source, p)) for which in range(2)]
                g = self.check(p, one, other)
                self.assertEqual(parted(p, g, part)[1], ())
                self.assertEqual(common(p, other, one)[0], g)

    def test_of_the_greatest_degree(self):
        source = chance(209)
        for p in SETTINGS:
            for at in range(5):
                self.check(p, long_sum(source, p, 60), long_sum(source, p, 60))
                part = long_sum(source, p, 30)
                pair = [times_each(p, part, long_sum(source, p, 30)) for which in range(2)]
                self.assertGreaterEqual(len(self.check(p, pair[0], pair[1])), 31)
            one = long_sum(source, p, 60)
            self.assertEqual(len(self.check(p, one, one)), 61)
            self.check(p, one, (1,))
            self.check(p, one, ())
            # Neighbours of Fibonacci's row take a step of parting for each degree.
            row = [(1,), (0, 1)]
            while len(row) < 61:
                row.append(together(p, times_each(p, (0, 1), row[-1]), row[-2]))
            self.assertEqual(self.check(p, row[-1], row[-2]), (1,))


if __name__ == "__main__":
    unittest.main()
