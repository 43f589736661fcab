"""Promises [1], [3], [4] and [5]: rounds."""

import copy
import unittest

from duskround import errors
from duskround.lamps import shows, timed
from duskround.rounds import after, backward, gone, joined, repeated, still
from helper import (
    HUGE, SETTINGS, VAST, Street, chance, check_round, some_deeds, some_pattern, some_round, walked_rounds,
    within_steps,
)

NOTHING = (0, ())


def quick_after(p, one, n, place):
    """What after tells, where it takes few steps."""
    return within_steps(300, after, p, one, n, place)


def quick_repeated(p, one, n):
    """What repeated tells, where it takes few steps."""
    return within_steps(300, repeated, p, one, n)


class TestStill(unittest.TestCase):
    def test_it_does_nothing(self):
        self.assertEqual(still(), NOTHING)
        for p in SETTINGS:
            check_round(self, p, still())


class TestGone(unittest.TestCase):
    def test_no_deeds(self):
        for p in SETTINGS:
            self.assertEqual(gone(p, []), NOTHING)
            check_round(self, p, gone(p, []))

    def test_written_examples(self):
        self.assertEqual(gone(3, [("go", -2), ("turn", 1), ("go", 2), ("turn", 2), ("go", 3)]), (3, ((-2, 1), (0, 2))))
        self.assertEqual(gone(2, [("turn", 1), ("go", 4), ("turn", -1), ("go", -4), ("turn", 1)]), (0, ((4, 1),)))
        self.assertEqual(gone(5, [("turn", -1)]), (0, ((0, 4),)))
        self.assertEqual(gone(7, [("go", 9)]), (9, ()))
        self.assertEqual(gone(7, [("go", 0), ("turn", 0)]), NOTHING)

    def test_against_a_street_that_is_walked(self):
        source = chance(11)
        for p in SETTINGS:
            for at in range(300):
                deeds = some_deeds(source)
                street = Street(p)
                street.walk(deeds)
                told = gone(p, deeds)
                check_round(self, p, told)
                self.assertEqual(told, street.told())

    def test_numbers_of_any_size(self):
        for p in SETTINGS:
            deeds = [("go", VAST), ("turn", p * VAST + 1), ("go", -VAST - HUGE), ("turn", -p * HUGE - 1)]
            self.assertEqual(within_steps(200, gone, p, deeds), (-HUGE, ((-HUGE, p - 1), (VAST, 1))))
            self.assertEqual(within_steps(200, gone, p, [("go", -HUGE), ("go", HUGE)]), NOTHING)
            self.assertEqual(within_steps(200, gone, p, [("turn", -p * VAST)]), NOTHING)

    def test_a_full_row(self):
        for p in SETTINGS:
            deeds = [("turn", 1), ("go", 1)] * 200
            self.assertEqual(gone(p, deeds), (200, tuple((place, 1) for place in range(200))))

    def test_another_word_at_any_place_is_refused(self):
        good = [("go", 3), ("turn", 1), ("go", -4), ("turn", -1)]
        for p in SETTINGS:
            for word in ("", "on", "back", "up", "down", "Go", "TURN", " go", "turn ", "goturn", "g", "rest", "gone"):
                for at in range(len(good) + 1):
                    deeds = good[:at] + [(word, 1)] + good[at:]
                    before = copy.deepcopy(deeds)
                    with self.assertRaises(errors.NoDeed):
                        gone(p, deeds)
                    self.assertEqual(deeds, before)
                with self.assertRaises(errors.NoDeed):
                    gone(p, [(word, 0)])

    def test_the_refusal_is_no_other(self):
        for p in SETTINGS:
            with self.assertRaises(errors.NoDeed) as held:
                gone(p, [("go", 1), ("fly", 1)])
            self.assertIs(type(held.exception), errors.NoDeed)
            self.assertIsInstance(held.exception, errors.StreetError)
            self.assertIsInstance(held.exception, ValueError)
            others = [kind for kind in errors.StreetError.__subclasses__() if kind is not errors.NoDeed]
            self.assertEqual(len(others), 16)
            self.assertNotIsInstance(held.exception, tuple(others))

    def test_the_list_stays_and_a_deed_more_is_heeded(self):
        for p in SETTINGS:
            deeds = [("turn", 1), ("go", -2), ("turn", p - 1)]
            before = copy.deepcopy(deeds)
            told = gone(p, deeds)
            self.assertEqual(deeds, before)
            deeds.append(("turn", 1))
            self.assertEqual(gone(p, deeds), (-2, ((0, 1),)))
            self.assertEqual(told, (-2, ((-2, p - 1), (0, 1))))


class TestJoined(unittest.TestCase):
    def test_the_second_ones_lamps_lie_from_where_the_first_ends(self):
        self.assertEqual(joined(5, (3, ((0, 1),)), (2, ((0, 2), (1, 4)))), (5, ((0, 1), (3, 2), (4, 4))))
        self.assertEqual(joined(5, (-3, ((0, 1),)), (2, ((0, 2), (3, 4)))), (-1, ((-3, 2),)))
        self.assertEqual(joined(2, (1, ((0, 1),)), (-1, ((-1, 1),))), NOTHING)

    def test_the_still_round_on_either_side(self):
        source = chance(12)
        for p in SETTINGS:
            self.assertEqual(joined(p, still(), still()), NOTHING)
            for at in range(50):
                one = some_round(source, p)
                self.assertEqual(joined(p, one, still()), one)
                self.assertEqual(joined(p, still(), one), one)

    def test_against_a_street_that_is_walked(self):
        source = chance(13)
        for p in SETTINGS:
            for at in range(150):
                one, other = some_round(source, p), some_round(source, p)
                told = joined(p, one, other)
                check_round(self, p, told)
                self.assertEqual(told, walked_rounds(p, [one, other]))

    def test_three_both_ways(self):
        source = chance(14)
        for p in SETTINGS:
            for at in range(150):
                a, b, c = [some_round(source, p) for which in range(3)]
                self.assertEqual(joined(p, joined(p, a, b), c), joined(p, a, joined(p, b, c)))

    def test_two_rows_of_deeds(self):
        source = chance(15)
        for p in SETTINGS:
            for at in range(150):
                one, other = some_deeds(source), some_deeds(source)
                self.assertEqual(joined(p, gone(p, one), gone(p, other)), gone(p, one + other))

    def test_far_rounds(self):
        for p in SETTINGS:
            told = within_steps(300, joined, p, (HUGE, ((-HUGE, 1),)), (-VAST, ((-2 * HUGE, p - 1), (VAST, 1))))
            self.assertEqual(told, (HUGE - VAST, ((HUGE + VAST, 1),)))


class TestBackward(unittest.TestCase):
    def test_written_examples(self):
        self.assertEqual(backward(3, (2, ((0, 1), (5, 2)))), (-2, ((-2, 2), (3, 1))))
        self.assertEqual(backward(2, (-1, ((4, 1),))), (1, ((5, 1),)))
        for p in SETTINGS:
            self.assertEqual(backward(p, still()), NOTHING)

    def test_joined_ahead_and_behind(self):
        source = chance(16)
        for p in SETTINGS:
            for at in range(150):
                one = some_round(source, p)
                back = backward(p, one)
                check_round(self, p, back)
                self.assertEqual(joined(p, one, back), NOTHING)
                self.assertEqual(joined(p, back, one), NOTHING)
                self.assertEqual(walked_rounds(p, [one, back]), NOTHING)
                self.assertEqual(backward(p, back), one)

    def test_of_two_joined(self):
        source = chance(17)
        for p in SETTINGS:
            for at in range(150):
                one, other = some_round(source, p), some_round(source, p)
                turned = joined(p, backward(p, other), backward(p, one))
                self.assertEqual(backward(p, joined(p, one, other)), turned)

    def test_far_rounds(self):
        for p in SETTINGS:
            one = (VAST, ((-HUGE, 1), (HUGE, 1)))
            told = within_steps(300, backward, p, one)
            self.assertEqual(told, (-VAST, ((-HUGE - VAST, p - 1), (HUGE - VAST, p - 1))))


class TestRepeated(unittest.TestCase):
    def test_nought_times_does_nothing(self):
        source = chance(18)
        for p in SETTINGS:
            for at in range(50):
                one = some_round(source, p)
                self.assertEqual(repeated(p, one, 0), NOTHING)
                check_round(self, p, repeated(p, one, 0))
                self.assertEqual(repeated(p, one, 1), one)
                self.assertEqual(repeated(p, one, -1), backward(p, one))
            self.assertEqual(quick_repeated(p, still(), HUGE), NOTHING)

    def test_every_n_against_joining(self):
        source = chance(19)
        for p in SETTINGS:
            for end in (-7, -2, -1, 0, 1, 3):
                one = (end, some_pattern(source, p))
                total = below = NOTHING
                for n in range(201):
                    told = repeated(p, one, n)
                    check_round(self, p, told)
                    self.assertEqual(told, total)
                    self.assertEqual(repeated(p, one, -n), below)
                    total = joined(p, total, one)
                    below = joined(p, below, backward(p, one))

    def test_against_a_street_that_is_walked(self):
        source = chance(20)
        for p in SETTINGS:
            for n in range(13):
                one = some_round(source, p)
                self.assertEqual(repeated(p, one, n), walked_rounds(p, [one] * n))
                self.assertEqual(joined(p, repeated(p, one, n), repeated(p, one, -n)), NOTHING)

    def test_lamps_that_go_out_on_the_way(self):
        for p in SETTINGS:
            one = (1, ((0, 1), (1, p - 1)))
            self.assertEqual(repeated(p, one, 200), (200, ((0, 1), (200, p - 1))))
            self.assertEqual(repeated(p, (4, ()), -200), (-800, ()))

    def test_far_rounds(self):
        for p in SETTINGS:
            self.assertEqual(repeated(p, (HUGE, ((-HUGE, 1),)), 2), (2 * HUGE, ((-HUGE, 1), (0, 1))))
            self.assertEqual(repeated(p, (-HUGE, ()), -200), (200 * HUGE, ()))

    def test_an_end_at_nought_with_n_of_any_size(self):
        source = chance(21)
        for p in SETTINGS:
            for n in (HUGE, -HUGE, VAST, -VAST, p * VAST, p * VAST + 1, -p * HUGE - 1):
                pattern = some_pattern(source, p)
                told = quick_repeated(p, (0, pattern), n)
                check_round(self, p, told)
                self.assertEqual(told, (0, timed(p, pattern, n % p)))
            self.assertEqual(quick_repeated(p, (0, ((-3, 1),)), -1 - p * VAST), (0, ((-3, p - 1),)))


class TestAfter(unittest.TestCase):
    def test_nought_times_all_is_dark(self):
        source = chance(22)
        for p in SETTINGS:
            for at in range(20):
                one = some_round(source, p)
                self.assertEqual([after(p, one, 0, place) for place in range(-20, 21)], [0] * 41)

    def test_small_n_against_repeated_and_a_walked_street(self):
        source = chance(23)
        for p in SETTINGS:
            for end in (-5, -3, -1, 0, 1, 2, 6):
                one = (end, some_pattern(source, p))
                for n in (1, 2, 3, p, 11, 12):
                    pattern = repeated(p, one, n)[1]
                    self.assertEqual(pattern, walked_rounds(p, [one] * n)[1])
                    for place in range(-85, 86):
                        told = after(p, one, n, place)
                        self.assertIs(type(told), int)
                        self.assertEqual(told, shows(pattern, place))

    def test_great_n_of_a_round_that_goes_on(self):
        # Far from both ends every place has had each lamp of the round once.
        for p in SETTINGS:
            one = (1, ((-2, 1), (0, 1), (3, 1)))
            n = HUGE
            asked = [(place, quick_after(p, one, n, place)) for place in (-3, -2, -1, 0, 3, n // 2)]
            self.assertEqual([told for place, told in asked], [0, 1, 1, 2 % p, 3 % p, 3 % p])
            last = [quick_after(p, one, n, n + k) for k in (-4, -3, -2, -1, 0, 2, 3)]
            self.assertEqual(last, [3 % p, 3 % p, 2 % p, 2 % p, 1, 1, 0])

    def test_great_n_of_a_round_that_goes_back(self):
        for p in SETTINGS:
            one = (-2, ((0, 1), (5, 1)))
            n = 10 ** 29 + 3
            self.assertEqual(quick_after(p, one, n, -2 * (n - 1)), 1)
            self.assertEqual([quick_after(p, one, n, place) for place in (-2 * n, 2, 0, -2)], [0, 0, 1, 1])
            self.assertEqual([quick_after(p, one, n, 5 - 2 * k) for k in (-1, 0, n - 1, n)], [0, 1, 1, 0])

    def test_great_n_of_a_round_that_ends_at_nought(self):
        for p in SETTINGS:
            one = (0, ((-4, 1), (9, p - 1)))
            for n in (HUGE, HUGE - 1, 10 ** 29, p * 10 ** 28):
                self.assertEqual(quick_after(p, one, n, -4), n % p)
                self.assertEqual(quick_after(p, one, n, 9), -n % p)
                self.assertEqual(quick_after(p, one, n, 0), 0)

    def test_strides_of_great_size(self):
        for p in SETTINGS:
            one = (HUGE, ((7, 1),))
            self.assertEqual(quick_after(p, one, HUGE, 7 + HUGE * (HUGE - 1)), 1)
            self.assertEqual([quick_after(p, one, HUGE, place) for place in (7 + HUGE * HUGE, 7 - HUGE, 8)], [0, 0, 0])

    def test_dark_rounds(self):
        for p in SETTINGS:
            for end in (-1, 0, 4):
                self.assertEqual(quick_after(p, (end, ()), HUGE, 12), 0)


if __name__ == "__main__":
    unittest.main()
