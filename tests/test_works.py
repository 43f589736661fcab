"""Promises [1], [5] and [11]: workings."""

import unittest

from duskround import errors
from duskround.works import spelled, worked
from helper import (
    HUGE, SETTINGS, VAST, chance, check_refused, check_round, check_untouched, some_round, walked_rounds, way_back,
    within_steps,
)


def turned(row):
    """A spelled row turned about, with each way turned."""
    return [(k, -way) for k, way in reversed(row)]


def spelled_lines(lines):
    """Every line spelled out, one by one."""
    rows = []
    for line in lines:
        if line[0] == "rest":
            rows.append([])
        elif line[0] == "member":
            rows.append([(line[1], 1)])
        elif line[0] == "join":
            rows.append(rows[line[1]] + rows[line[2]])
        else:
            row = rows[line[1]] if line[2] >= 0 else turned(rows[line[1]])
            rows.append(row * abs(line[2]))
    return rows


def gone_row(p, members, row):
    """The round of a spelled row, on a street that is walked."""
    return walked_rounds(p, [members[k] if way == 1 else way_back(p, members[k]) for k, way in row])


def some_lines(source, members, many, most):
    """A working whose lines, spelled out, have at most so many things."""
    lines = []
    sizes = []
    while len(lines) < many:
        i, j = [source.randrange(len(lines)) if lines else 0 for which in range(2)]
        n = source.randint(-4, 4)
        choice = source.random()
        if not lines or choice < 0.3:
            line, size = (("member", source.randrange(members)), 1) if members and choice < 0.25 else (("rest",), 0)
        elif choice < 0.7:
            line, size = ("join", i, j), sizes[i] + sizes[j]
        else:
            line, size = ("times", i, n), sizes[i] * abs(n)
        if size <= most:
            lines.append(line)
            sizes.append(size)
    return lines


class TestWorked(unittest.TestCase):
    def test_no_lines(self):
        for p in SETTINGS:
            self.assertEqual(worked(p, [], []), [])
            self.assertEqual(worked(p, [(1, ())], []), [])

    def test_written_examples(self):
        one, other = (2, ((0, 1),)), (-1, ((3, 1),))
        lines = [
            ("rest",), ("member", 1), ("member", 0), ("join", 2, 1), ("join", 1, 2), ("times", 2, 3), ("times", 2, -1),
            ("times", 2, 0), ("join", 2, 2), ("join", 2, 6), ("times", 3, -2), ("join", 0, 0),
        ]
        self.assertEqual(worked(3, [one, other], lines), [
            (0, ()), other, one, (1, ((0, 1), (5, 1))), (1, ((-1, 1), (3, 1))), (6, ((0, 1), (2, 1), (4, 1))),
            (-2, ((-2, 2),)), (0, ()), (4, ((0, 1), (2, 1))), (0, ()), (-2, ((-2, 2), (-1, 2), (3, 2), (4, 2))),
            (0, ()),
        ])

    def test_drawn_workings_against_a_walked_street(self):
        source = chance(301)
        for p in SETTINGS:
            for at in range(60):
                members = [some_round(source, p) for which in range(source.randint(0, 4))]
                lines = some_lines(source, len(members), source.randint(1, 14), 60)
                told = check_untouched(self, worked, p, members, lines)
                self.assertIs(type(told), list)
                rows = spelled_lines(lines)
                self.assertEqual(len(told), len(rows))
                for one, row in zip(told, rows):
                    check_round(self, p, one)
                    self.assertEqual(one, gone_row(p, members, row))

    def test_times_of_two_hundred(self):
        for p in SETTINGS:
            for n in (200, -200, 199, -199):
                lines = [("member", 0), ("times", 0, n), ("member", 1), ("times", 2, n)]
                members = [(1, ((0, 1),)), (0, ((-5, 1), (5, p - 1)))]
                told = worked(p, members, lines)
                lit = range(n) if n > 0 else range(n, 0)
                self.assertEqual(told[1], (n, tuple((place, 1 if n > 0 else p - 1) for place in lit)))
                self.assertEqual(told[3], walked_rounds(p, [members[1]] * (n % p)))

    def test_far_rounds(self):
        for p in SETTINGS:
            members = [(HUGE, ((-HUGE, 1),)), (0, ((HUGE, 1),))]
            lines = [("member", 0), ("member", 1), ("join", 0, 1), ("times", 2, -1), ("times", 1, HUGE), ("times", 0, 2)]
            told = worked(p, members, lines)
            self.assertEqual(told[2], (HUGE, ((-HUGE, 1), (2 * HUGE, 1))))
            self.assertEqual(told[3], (-HUGE, ((-2 * HUGE, p - 1), (HUGE, p - 1))))
            self.assertEqual(told[4], (0, ((HUGE, HUGE % p),) if HUGE % p else ()))
            self.assertEqual(told[5], (2 * HUGE, ((-HUGE, 1), (0, 1))))

    def test_long_workings_with_great_n(self):
        for p in SETTINGS:
            lines = [("member", 0)] + [("join", at, 0) for at in range(3000)]
            self.assertEqual(worked(p, [(1, ())], lines)[-1], (3001, ()))
            lines = [("member", 0), ("times", 0, 100000), ("times", 0, -100000), ("join", 1, 2)]
            told = worked(p, [(3, ((1, 1),))], lines)
            self.assertEqual(told[1], (300000, tuple((1 + 3 * k, 1) for k in range(100000))))
            self.assertEqual(told[2], (-300000, tuple((1 - 3 * k, p - 1) for k in range(100000, 0, -1))))
            self.assertEqual(told[3], (0, ()))

    def test_another_word_is_refused_at_any_place(self):
        good = [("rest",), ("member", 0), ("join", 0, 1), ("times", 2, 2)]
        for p in SETTINGS:
            self.assertEqual(len(worked(p, [(1, ())], good)), 4)
            for word in ("", "Rest", "rest ", "members", "joins", "time", "go", "turn", "on", "JOIN"):
                for things in ((), (0,), (0, 0)):
                    for at in range(1, 5):
                        # The new line stands behind those that the good ones name.
                        lines = good[:at] + [(word,) + things]
                        check_refused(self, errors.BadLine, worked, p, [(1, ())], lines)
                        check_refused(self, errors.BadLine, worked, p, [(1, ())], lines + [("rest",)])
                    check_refused(self, errors.BadLine, worked, p, [(1, ())], [(word,) + things])

    def test_members_that_are_not_there(self):
        for p in SETTINGS:
            for many in range(4):
                members = [(at, ()) for at in range(many)]
                for k in range(many):
                    self.assertEqual(worked(p, members, [("member", k)]), [(k, ())])
                for k in (-1, -many, -many - 1, many, many + 1, HUGE, -HUGE):
                    if not 0 <= k < many:
                        check_refused(self, errors.BadLine, worked, p, members, [("member", k)])
                        check_refused(self, errors.BadLine, worked, p, members, [("rest",), ("member", k)])

    def test_lines_that_are_not_there(self):
        for p in SETTINGS:
            members = [(1, ())]
            for own in range(4):
                ahead = [("member", 0)] * own
                for i in range(own):
                    self.assertEqual(worked(p, members, ahead + [("times", i, 2)])[-1], (2, ()))
                    self.assertEqual(worked(p, members, ahead + [("join", i, own - 1)])[-1], (2, ()))
                    self.assertEqual(worked(p, members, ahead + [("join", own - 1, i)])[-1], (2, ()))
                for i in (-1, -own, -own - 1, own, own + 1, HUGE, -HUGE):
                    if 0 <= i < own:
                        continue
                    bad = [("times", i, 2), ("times", i, 0), ("join", i, i)]
                    if own:
                        bad += [("join", i, 0), ("join", 0, i), ("join", own - 1, i)]
                    for line in bad:
                        # That there are lines behind it doesn't help.
                        for tail in ([], [("rest",)], [("member", 0)] * 3):
                            check_refused(self, errors.BadLine, worked, p, members, ahead + [line] + tail)

    def test_lists_that_are_changed_afterwards(self):
        for p in SETTINGS:
            members, lines = [(1, ((0, 1),))], [("member", 0), ("times", 0, 2)]
            told = worked(p, members, lines)
            members[0] = (5, ())
            lines.append(("rest",))
            self.assertEqual(told, [(1, ((0, 1),)), (2, ((0, 1), (1, 1)))])
            self.assertEqual(worked(p, members, lines), [(5, ()), (10, ()), (0, ())])


class TestSpelled(unittest.TestCase):
    def test_written_examples(self):
        self.assertEqual(spelled([]), [])
        self.assertEqual(spelled([("rest",)]), [])
        self.assertEqual(spelled([("member", 4)]), [(4, 1)])
        two = [("member", 0), ("member", 1)]
        self.assertEqual(spelled(two), [(1, 1)])
        self.assertEqual(spelled(two + [("join", 0, 1)]), [(0, 1), (1, 1)])
        self.assertEqual(spelled(two + [("join", 1, 0)]), [(1, 1), (0, 1)])
        self.assertEqual(spelled(two + [("join", 1, 1)]), [(1, 1), (1, 1)])
        join = two + [("join", 0, 1)]
        self.assertEqual(spelled(join + [("times", 2, 2)]), [(0, 1), (1, 1), (0, 1), (1, 1)])
        self.assertEqual(spelled(join + [("times", 2, 1)]), [(0, 1), (1, 1)])
        self.assertEqual(spelled(join + [("times", 2, 0)]), [])
        self.assertEqual(spelled(join + [("times", 2, -1)]), [(1, -1), (0, -1)])
        self.assertEqual(spelled(join + [("times", 2, -2)]), [(1, -1), (0, -1), (1, -1), (0, -1)])
        # What undoes itself is still spelled out.
        self.assertEqual(spelled([("member", 0), ("times", 0, -1), ("join", 0, 1)]), [(0, 1), (0, -1)])
        self.assertEqual(spelled(join + [("times", 2, -1), ("times", 3, -1)]), [(0, 1), (1, 1)])
        self.assertEqual(spelled(two + [("rest",), ("join", 2, 0), ("join", 3, 2)]), [(0, 1)])

    def test_drawn_workings(self):
        source = chance(302)
        for p in SETTINGS:
            for at in range(100):
                members = [some_round(source, p) for which in range(source.randint(0, 4))]
                lines = some_lines(source, len(members), source.randint(1, 20), 100)
                told = check_untouched(self, spelled, lines)
                self.assertIs(type(told), list)
                for thing in told:
                    self.assertIs(type(thing), tuple)
                    self.assertEqual([type(part) for part in thing], [int, int])
                self.assertEqual(told, spelled_lines(lines)[-1])
                self.assertEqual(gone_row(p, members, told), worked(p, members, lines)[-1])

    def test_two_thousand_and_one_more(self):
        base = [("member", 0), ("member", 1), ("times", 0, 1000), ("times", 1, -1000)]
        self.assertEqual(spelled([("member", 2), ("times", 0, 2000)]), [(2, 1)] * 2000)
        self.assertEqual(spelled([("member", 2), ("times", 0, -2000)]), [(2, -1)] * 2000)
        self.assertEqual(spelled(base + [("join", 2, 3)]), [(0, 1)] * 1000 + [(1, -1)] * 1000)
        self.assertEqual(len(spelled(base + [("join", 2, 3), ("times", 4, -1)])), 2000)
        self.assertEqual(len(spelled([("member", 0), ("join", 0, 0), ("times", 1, 1000)])), 2000)
        for lines in (
            [("member", 2), ("times", 0, 2001)],
            [("member", 2), ("times", 0, -2001)],
            [("member", 2), ("times", 0, VAST)],
            base + [("join", 2, 3), ("join", 4, 0)],
            base + [("join", 2, 3), ("join", 0, 4)],
            base + [("join", 2, 3), ("join", 4, 0), ("times", 5, -1)],
            [("member", 0), ("join", 0, 0), ("times", 1, 1001)],
            [("member", 0), ("times", 0, 2001), ("times", 1, -1)],
        ):
            check_refused(self, errors.TooLong, spelled, lines)

    def test_other_lines_may_be_as_long_as_they_like(self):
        long = [("member", 0), ("times", 0, HUGE), ("times", 1, -HUGE), ("join", 2, 1)]
        self.assertEqual(spelled(long + [("member", 3)]), [(3, 1)])
        self.assertEqual(spelled(long + [("rest",)]), [])
        self.assertEqual(spelled(long + [("join", 0, 0)]), [(0, 1), (0, 1)])
        self.assertEqual(spelled(long + [("times", 3, 0)]), [])
        self.assertEqual(spelled(long + [("times", 3, 0), ("join", 4, 0)]), [(0, 1)])
        self.assertEqual(spelled(long + [("times", 3, 0), ("times", 4, VAST), ("join", 0, 5)]), [(0, 1)])
        check_refused(self, errors.TooLong, spelled, long)
        check_refused(self, errors.TooLong, spelled, long + [("times", 3, 1)])
        check_refused(self, errors.TooLong, spelled, long + [("times", 3, 0), ("join", 4, 3)])

    def test_any_n_of_nothing_is_nothing(self):
        for n in (HUGE, -HUGE, VAST, -VAST, 0):
            lines = [("rest",), ("times", 0, n)]
            self.assertEqual(within_steps(200, spelled, lines), [])
            lines += [("join", 1, 1), ("member", 0), ("join", 2, 3)]
            self.assertEqual(within_steps(300, spelled, lines), [(0, 1)])

    def test_lines_that_double_again_and_again(self):
        lines = [("member", 0)] + [("join", at, at) for at in range(399)]
        for lines in (lines, lines + [("times", 399, VAST)]):
            with self.assertRaises(errors.TooLong):
                within_steps(20000, spelled, lines)
        self.assertEqual(len(spelled(lines[:11])), 1024)
        check_refused(self, errors.TooLong, spelled, lines[:12])

    def test_long_workings(self):
        lines = [("member", 0)] + [("times", at, -1) for at in range(3001)]
        self.assertEqual(spelled(lines), [(0, -1)])
        lines = [("member", 7)] + [("join", at, 0) for at in range(1999)]
        self.assertEqual(spelled(lines), [(7, 1)] * 2000)
        check_refused(self, errors.TooLong, spelled, lines + [("join", 1999, 0)])


if __name__ == "__main__":
    unittest.main()
