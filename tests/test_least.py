"""Promises [1] and [6]: the fewest single deeds of a round."""

import unittest

from duskround import errors
from duskround.least import farther, fewest, many_at, price, shortest, walked
from helper import (
    HUGE, SETTINGS, Street, chance, check_refused, check_round, check_untouched, some_round, within_steps,
)

WORDS = ("on", "back", "up", "down")
DEEDS = {"on": ("go", 1), "back": ("go", -1), "up": ("turn", 1), "down": ("turn", -1)}
# Counted by going every single deed behind every round that was found, from the one that does nothing.
COUNTED = {
    2: [1, 3, 6, 12, 22, 40, 71, 123, 212, 360, 607, 1017, 1693],
    3: [1, 4, 10, 26, 58, 130, 286, 602, 1274, 2650, 5454, 11202, 22826],
    5: [1, 4, 12, 34, 90, 226, 558, 1354, 3222, 7594, 17766, 41258, 95334],
    7: [1, 4, 12, 36, 98, 258, 662, 1666, 4134, 10138, 24658, 59578, 143214],
}


def street_row(p, row):
    """The round of a row of single deeds, on a street that is walked."""
    street = Street(p)
    street.walk([DEEDS[word] for word in row])
    return street.told()


def behind(p, one, word):
    """A round with a single deed behind it, reckoned without the program."""
    end, pattern = one
    if word in ("on", "back"):
        return (end + DEEDS[word][1], pattern)
    lamps = dict(pattern)
    lamps[end] = (lamps.get(end, 0) + DEEDS[word][1]) % p
    return (end, tuple((place, lamps[place]) for place in sorted(lamps) if lamps[place]))


def rings(p, most):
    """The rounds of fewest 0, 1, .., most, found by going every single deed behind those found."""
    seen = {(0, ())}
    told = [[(0, ())]]
    for at in range(most):
        fresh = []
        for one in told[-1]:
            for word in WORDS:
                more = behind(p, one, word)
                if more not in seen:
                    seen.add(more)
                    fresh.append(more)
        told.append(fresh)
    return told


def scattered(source, p, reach, many):
    """A round that ends and is lit anywhere within a reach."""
    places = sorted(source.sample(range(-reach, reach + 1), min(many, 2 * reach + 1)))
    return (source.randint(-reach, reach), tuple((place, source.randint(1, p - 1)) for place in places))


class TestPrice(unittest.TestCase):
    def test_each_setting(self):
        told = {p: [price(p, setting) for setting in range(p)] for p in SETTINGS}
        self.assertEqual(told, {2: [0, 1], 3: [0, 1, 1], 5: [0, 1, 2, 2, 1], 7: [0, 1, 2, 3, 3, 2, 1]})
        for p in SETTINGS:
            self.assertEqual({type(price(p, setting)) for setting in range(p)}, {int})


class TestFewest(unittest.TestCase):
    def test_written_examples(self):
        for p in SETTINGS:
            self.assertEqual(fewest(p, (0, ())), 0)
            self.assertEqual(fewest(p, (4, ())), 4)
            self.assertEqual(fewest(p, (-4, ())), 4)
            self.assertEqual(fewest(p, (0, ((0, 1),))), 1)
            self.assertEqual(fewest(p, (0, ((0, p - 1),))), 1)
            self.assertEqual(fewest(p, (0, ((3, 1),))), 7)
            self.assertEqual(fewest(p, (0, ((-3, 1),))), 7)
            self.assertEqual(fewest(p, (3, ((3, 1),))), 4)
            self.assertEqual(fewest(p, (5, ((3, 1),))), 6)
            self.assertEqual(fewest(p, (2, ((-1, 1), (4, 1)))), 1 + 5 + 2 + 2)
            self.assertEqual(fewest(p, (-1, ((-3, 1), (1, 1)))), 1 + 4 + 2 + 2)
            self.assertEqual(fewest(p, (0, ((-2, 1), (5, 1)))), 14 + 2)
        self.assertEqual(fewest(7, (0, ((0, 3), (1, 4), (2, 5)))), 4 + 3 + 3 + 2)

    def test_every_round_that_few_single_deeds_reach(self):
        for p, most in ((2, 11), (3, 8), (5, 7), (7, 7)):
            for n, ring in enumerate(rings(p, most)):
                for one in ring:
                    self.assertEqual(fewest(p, one), n, one)

    def test_far_rounds_are_reckoned(self):
        for p in SETTINGS:
            asked = [
                ((HUGE, ()), HUGE),
                ((-HUGE, ()), HUGE),
                ((0, ((HUGE, 1),)), 2 * HUGE + 1),
                ((0, ((-HUGE, p - 1), (HUGE, 1))), 4 * HUGE + 2),
                ((HUGE, ((-HUGE, 1),)), 3 * HUGE + 1),
                ((-7, ((-HUGE, 1), (HUGE, 1))), 4 * HUGE - 7 + 2),
                ((HUGE - 5, ((HUGE, 1),)), HUGE + 5 + 1),
            ]
            for one, told in asked:
                self.assertEqual(within_steps(100, fewest, p, one), told)
                self.assertIs(type(fewest(p, one)), int)

    def test_many_lamps(self):
        for p in SETTINGS:
            one = (0, tuple((place, 1) for place in range(-2000, 2001)))
            self.assertEqual(fewest(p, one), 8000 + 4001)

    def test_as_many_as_back(self):
        # The way back of a round takes the same deeds turned about, its mirror the same deeds mirrored.
        source = chance(101)
        for p in SETTINGS:
            for at in range(200):
                end, pattern = some_round(source, p)
                back = (-end, tuple((place - end, p - setting) for place, setting in pattern))
                mirror = (-end, tuple((-place, setting) for place, setting in pattern[::-1]))
                told = fewest(p, (end, pattern))
                self.assertEqual(fewest(p, back), told)
                self.assertEqual(fewest(p, mirror), told)


class TestWalked(unittest.TestCase):
    def test_written_examples(self):
        for p in SETTINGS:
            self.assertEqual(walked(p, []), (0, ()))
            self.assertEqual(walked(p, ["on"]), (1, ()))
            self.assertEqual(walked(p, ["back"]), (-1, ()))
            self.assertEqual(walked(p, ["up"]), (0, ((0, 1),)))
            self.assertEqual(walked(p, ["down"]), (0, ((0, p - 1),)))
            self.assertEqual(walked(p, ["back", "up", "on", "on", "down"]), (1, ((-1, 1), (1, p - 1))))
            self.assertEqual(walked(p, ["up"] * p), (0, ()))

    def test_drawn_rows(self):
        source = chance(102)
        for p in SETTINGS:
            for at in range(200):
                row = [source.choice(WORDS) for step in range(source.randint(0, 40))]
                told = check_untouched(self, walked, p, row)
                check_round(self, p, told)
                self.assertEqual(told, street_row(p, row))

    def test_a_full_row(self):
        for p in SETTINGS:
            self.assertEqual(walked(p, ["up", "on"] * 250), (250, tuple((place, 1) for place in range(250))))

    def test_another_text_is_refused_at_any_place(self):
        for p in SETTINGS:
            for word in ("", "On", "ON", "on ", " on", "go", "turn", "forth", "onback", "u", "downs", "rest"):
                for at in range(5):
                    row = list(WORDS)
                    row.insert(at, word)
                    check_refused(self, errors.NoDeed, walked, p, row)
                check_refused(self, errors.NoDeed, walked, p, [word])


class TestShortest(unittest.TestCase):
    def check(self, p, one):
        told = check_untouched(self, shortest, p, one)
        self.assertIs(type(told), list)
        self.assertTrue(all(type(word) is str for word in told))
        self.assertEqual(len(told), fewest(p, one), one)
        self.assertEqual(street_row(p, told), one)
        self.assertEqual(walked(p, told), one)

    def test_the_still_round(self):
        for p in SETTINGS:
            self.assertEqual(shortest(p, (0, ())), [])

    def test_single_deeds(self):
        for p in SETTINGS:
            for word in WORDS:
                told = shortest(p, walked(p, [word]))
                self.assertEqual(told, ["up"] if p == 2 and word == "down" else [word])

    def test_every_round_that_few_single_deeds_reach(self):
        for p, most in ((2, 9), (3, 7), (5, 6), (7, 5)):
            for ring in rings(p, most):
                for one in ring:
                    self.check(p, one)

    def test_drawn_rounds(self):
        source = chance(103)
        for p in SETTINGS:
            for at in range(150):
                self.check(p, scattered(source, p, source.choice((3, 9, 40)), source.randint(0, 8)))

    def test_five_hundred_and_one_more(self):
        for p in SETTINGS:
            for one in (
                (500, ()), (-500, ()), (499, ((7, 1),)), (-498, ((0, 1), (-498, p - 1))[::-1]),
                (1, ((250, 1),)), (0, ((-249, 1), (0, 1))), (0, ((-100, 1), (149, 1))),
            ):
                self.check(p, one)
            for one in (
                (501, ()), (-501, ()), (500, ((7, 1),)), (-500, ((0, 1),)), (0, ((250, 1),)), (0, ((-250, p - 1),)),
                (1, ((-250, 1),)), (0, ((-100, 1), (150, 1))),
            ):
                self.assertGreater(fewest(p, one), 500)
                check_refused(self, errors.TooLong, shortest, p, one)

    def test_costs_count_for_the_bound(self):
        for p, cost in ((2, 1), (3, 1), (5, 2), (7, 3)):
            lamp = ((0, p // 2),)
            self.check(p, (500 - cost, lamp))
            check_refused(self, errors.TooLong, shortest, p, (501 - cost, lamp))

    def test_far_rounds_are_refused_ahead_of_any_row(self):
        for p in SETTINGS:
            for one in ((HUGE, ()), (-HUGE, ()), (0, ((HUGE, 1),)), (3, ((-HUGE, 1), (HUGE, 1)))):
                with self.assertRaises(errors.TooLong):
                    within_steps(100, shortest, p, one)


class TestFarther(unittest.TestCase):
    def test_written_examples(self):
        for p in SETTINGS:
            self.assertEqual(farther(p, (0, ())), ["on", "back", "up", "down"])
            self.assertEqual(farther(p, (3, ())), ["on", "up", "down"])
            self.assertEqual(farther(p, (-3, ())), ["back", "up", "down"])
        self.assertEqual(farther(2, (0, ((0, 1),))), ["on", "back"])
        self.assertEqual(farther(3, (0, ((0, 1),))), ["on", "back"])
        self.assertEqual(farther(5, (0, ((0, 1),))), ["on", "back", "up"])
        self.assertEqual(farther(5, (0, ((0, 2),))), ["on", "back"])
        self.assertEqual(farther(7, (0, ((0, 5),))), ["on", "back", "down"])
        # A dead end: whatever is done here leads no farther.
        self.assertEqual(farther(2, (0, ((-1, 1), (0, 1), (1, 1)))), [])

    def test_against_the_rings(self):
        for p, most in ((2, 9), (3, 7), (5, 6), (7, 5)):
            told = rings(p, most + 1)
            far = {one: n for n, ring in enumerate(told) for one in ring}
            for ring in told[:-1]:
                for one in ring:
                    words = [word for word in WORDS if far[behind(p, one, word)] > far[one]]
                    self.assertEqual(farther(p, one), words, one)

    def test_drawn_rounds(self):
        source = chance(104)
        for p in SETTINGS:
            for at in range(200):
                one = scattered(source, p, 12, source.randint(0, 9))
                told = check_untouched(self, farther, p, one)
                self.assertIs(type(told), list)
                words = [word for word in WORDS if fewest(p, behind(p, one, word)) > fewest(p, one)]
                self.assertEqual(told, words)

    def test_far_rounds_are_reckoned(self):
        for p in SETTINGS:
            one = (HUGE, ((-HUGE, 1), (0, 1)))
            self.assertEqual(within_steps(1000, farther, p, one), ["on", "up", "down"])


class TestManyAt(unittest.TestCase):
    def test_every_count(self):
        for p in SETTINGS:
            told = [many_at(p, n) for n in range(13)]
            self.assertEqual(told, COUNTED[p])
            self.assertEqual({type(many) for many in told}, {int})

    def test_against_the_rings(self):
        for p, most in ((2, 11), (3, 8), (5, 7), (7, 7)):
            self.assertEqual([many_at(p, n) for n in range(most + 1)], [len(ring) for ring in rings(p, most)])

    def test_somewhat_beyond(self):
        self.assertEqual([many_at(2, n) for n in (13, 14)], [len(ring) for ring in rings(2, 14)[13:]])


if __name__ == "__main__":
    unittest.main()
