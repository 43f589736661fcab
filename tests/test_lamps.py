"""Promises [1] and [2]: patterns."""

import copy
import unittest

from duskround.lamps import added, moved, shows, tidy, timed
from helper import HUGE, SETTINGS, VAST, chance, check_pattern, some_pairs, some_pattern, within_steps


def summed(p, pairs):
    """The settings of pairs by place, reckoned place by place."""
    places = sorted({place for place, setting in pairs})
    sums = [(place, sum(s for q, s in pairs if q == place) % p) for place in places]
    return tuple(pair for pair in sums if pair[1])


class TestTidy(unittest.TestCase):
    def test_no_pairs(self):
        for p in SETTINGS:
            self.assertEqual(tidy(p, []), ())
            self.assertIs(type(tidy(p, [])), tuple)

    def test_written_examples(self):
        self.assertEqual(tidy(2, [(3, 1), (-4, 1), (0, 1)]), ((-4, 1), (0, 1), (3, 1)))
        self.assertEqual(tidy(3, [(1, 2), (1, 2)]), ((1, 1),))
        self.assertEqual(tidy(5, [(7, -1), (-7, 13)]), ((-7, 3), (7, 4)))
        self.assertEqual(tidy(7, [(0, 6), (-1, 3), (0, 2), (-1, -3)]), ((0, 1),))

    def test_sums_that_come_to_nought_leave_no_lamp(self):
        for p in SETTINGS:
            self.assertEqual(tidy(p, [(4, 0)]), ())
            self.assertEqual(tidy(p, [(4, p)]), ())
            self.assertEqual(tidy(p, [(4, -3 * p)]), ())
            self.assertEqual(tidy(p, [(4, 1), (5, 1), (4, p - 1)]), ((5, 1),))
            self.assertEqual(tidy(p, [(-2, 1)] * p), ())
            self.assertEqual(tidy(p, [(-2, 1)] * (p + 1)), ((-2, 1),))

    def test_settings_below_nought_and_of_any_size(self):
        for p in SETTINGS:
            self.assertEqual(tidy(p, [(0, -1)]), ((0, p - 1),))
            pairs = [(-HUGE, p * VAST + 1), (HUGE, -p * VAST - 1)]
            self.assertEqual(within_steps(100, tidy, p, pairs), ((-HUGE, 1), (HUGE, p - 1)))
            self.assertEqual(within_steps(100, tidy, p, [(VAST, p * HUGE - 1)]), ((VAST, p - 1),))

    def test_made_up_pairs_in_any_order(self):
        source = chance(1)
        for p in SETTINGS:
            for at in range(300):
                pairs = some_pairs(source)
                told = tidy(p, pairs)
                check_pattern(self, p, told)
                self.assertEqual(told, summed(p, pairs))
                self.assertEqual(tidy(p, pairs[::-1]), told)

    def test_a_full_row(self):
        for p in SETTINGS:
            pairs = [(200 - at, at) for at in range(400)]
            self.assertEqual(tidy(p, pairs), summed(p, pairs))

    def test_a_pattern_is_tidy_already(self):
        source = chance(2)
        for p in SETTINGS:
            for at in range(100):
                pattern = some_pattern(source, p)
                self.assertEqual(tidy(p, list(pattern)), pattern)

    def test_the_list_stays_and_a_pair_more_is_heeded(self):
        for p in SETTINGS:
            pairs = [(5, 1), (-5, p + 1), (5, -1), (2, 0)]
            before = copy.deepcopy(pairs)
            told = tidy(p, pairs)
            self.assertEqual(pairs, before)
            self.assertEqual(told, ((-5, 1),))
            pairs.append((8, 1))
            self.assertEqual(tidy(p, pairs), ((-5, 1), (8, 1)))
            self.assertEqual(told, ((-5, 1),))


class TestShows(unittest.TestCase):
    def test_dark_pattern(self):
        for place in (-HUGE, -1, 0, 1, HUGE):
            self.assertEqual(shows((), place), 0)

    def test_lit_places_and_others(self):
        source = chance(3)
        for p in SETTINGS:
            for at in range(100):
                pattern = some_pattern(source, p)
                settings = dict(pattern)
                for place in range(-12, 13):
                    told = shows(pattern, place)
                    self.assertEqual(told, settings.get(place, 0))
                    self.assertIs(type(told), int)

    def test_far_places(self):
        pattern = ((-HUGE, 1), (0, 6), (HUGE, 4))
        self.assertEqual([shows(pattern, place) for place in (-HUGE, 0, HUGE)], [1, 6, 4])
        self.assertEqual([shows(pattern, place) for place in (-HUGE - 1, 1 - HUGE, HUGE - 1, HUGE + 1)], [0] * 4)

    def test_every_length(self):
        for long in range(40):
            pattern = tuple((2 * at, 1) for at in range(long))
            self.assertEqual([shows(pattern, place) for place in range(-2, 2 * long + 2)], [0, 0] + [1, 0] * long + [0, 0])


class TestMoved(unittest.TestCase):
    def test_dark_pattern(self):
        self.assertEqual(within_steps(100, moved, (), HUGE), ())
        self.assertIs(type(moved((), 3)), tuple)

    def test_each_place_grows(self):
        self.assertEqual(moved(((-2, 1), (0, 3), (5, 2)), 2), ((0, 1), (2, 3), (7, 2)))
        self.assertEqual(moved(((-2, 1), (0, 3), (5, 2)), -6), ((-8, 1), (-6, 3), (-1, 2)))

    def test_there_and_back_by_numbers_of_any_size(self):
        source = chance(4)
        for p in SETTINGS:
            for by in (0, 1, -1, 17, HUGE, -HUGE, VAST, -VAST):
                pattern = some_pattern(source, p)
                told = within_steps(200, moved, pattern, by)
                check_pattern(self, p, told)
                self.assertEqual(told, tuple((place + by, setting) for place, setting in pattern))
                self.assertEqual(within_steps(200, moved, told, -by), pattern)


class TestAdded(unittest.TestCase):
    def test_dark(self):
        for p in SETTINGS:
            self.assertEqual(added(p, (), ()), ())
            self.assertEqual(added(p, ((3, 1),), ()), ((3, 1),))
            self.assertEqual(added(p, (), ((3, 1),)), ((3, 1),))

    def test_lamps_go_out(self):
        for p in SETTINGS:
            self.assertEqual(added(p, ((-1, 1), (2, 1)), ((-1, p - 1), (4, 1))), ((2, 1), (4, 1)))
            self.assertEqual(added(p, ((0, 1),), ((0, p - 1),)), ())

    def test_lamp_by_lamp_either_way_about(self):
        source = chance(5)
        for p in SETTINGS:
            for at in range(200):
                one, other = some_pattern(source, p), some_pattern(source, p)
                told = added(p, one, other)
                check_pattern(self, p, told)
                self.assertEqual(told, added(p, other, one))
                self.assertEqual(told, summed(p, list(one + other)))
                for place in range(-12, 13):
                    self.assertEqual(shows(told, place), (shows(one, place) + shows(other, place)) % p)

    def test_far_places(self):
        for p in SETTINGS:
            told = within_steps(200, added, p, ((-VAST, 1), (HUGE, 1)), ((-HUGE, 1), (VAST, 1)))
            self.assertEqual(told, ((-VAST, 1), (-HUGE, 1), (HUGE, 1), (VAST, 1)))

    def test_long_patterns(self):
        for p in SETTINGS:
            one = tuple((place, 1) for place in range(-3000, 3000))
            other = tuple((place, p - 1) for place in range(-3000, 2999))
            self.assertEqual(added(p, one, other), ((2999, 1),))


class TestTimed(unittest.TestCase):
    def test_by_nought_and_by_p_it_is_dark(self):
        source = chance(6)
        for p in SETTINGS:
            for at in range(50):
                pattern = some_pattern(source, p)
                for n in (0, p, -p, p * HUGE, -p * VAST):
                    self.assertEqual(within_steps(200, timed, p, pattern, n), ())

    def test_minus_one_undoes(self):
        source = chance(7)
        for p in SETTINGS:
            for at in range(50):
                pattern = some_pattern(source, p)
                back = timed(p, pattern, -1)
                check_pattern(self, p, back)
                self.assertEqual(added(p, pattern, back), ())
                self.assertEqual(timed(p, back, -1), pattern)

    def test_small_numbers_against_adding(self):
        source = chance(8)
        for p in SETTINGS:
            for at in range(30):
                pattern = some_pattern(source, p)
                total = ()
                for n in range(2 * p + 2):
                    self.assertEqual(timed(p, pattern, n), total)
                    self.assertEqual(timed(p, pattern, -n), timed(p, total, -1))
                    total = added(p, total, pattern)

    def test_numbers_of_any_size(self):
        pattern = ((-HUGE, 1), (4, 1))
        for p in SETTINGS:
            for n in (HUGE, -HUGE, VAST, -VAST):
                told = within_steps(200, timed, p, pattern, n)
                check_pattern(self, p, told)
                self.assertEqual(told, tuple((q, n % p) for q in (-HUGE, 4) if n % p))


if __name__ == "__main__":
    unittest.main()
