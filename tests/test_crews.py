"""Promises [1] and [12] to [15]: crews, their forms, what they make, and their rooms."""

import itertools
import math
import unittest

from duskround import errors
from duskround.crews import Crew, apart, within
from duskround.works import spelled, worked
from helper import (
    SETTINGS, beyond, chance, check_refused, check_round, check_stairs, check_untouched, column_of, drawn,
    first_and_lit, length_of, lies_low, put_in_row, put_together, way_back,
)

STRIDES = range(9)
STILL = (0, ())


def some_members(source, p, stride, many=None, reach=None):
    """Members whose ends are multiples of a stride; for some of them the stride of all comes out greater."""
    many = source.randint(0, 6) if many is None else many
    reach = source.choice((2, 5, 10, 24)) if reach is None else reach
    laps = 8 // stride if stride else 0
    return [(stride * source.randint(-laps, laps), drawn(source, p, reach, 6)) for at in range(many)]


def full_members(source, p, stride, many=6):
    """Members that are lit at every place at which they may be, some of which end as far as they may."""
    farthest = stride * (8 // stride) if stride else 0
    ends = [source.choice((farthest, -farthest, stride, 0)) for at in range(many)]
    return [(end, tuple((q, source.randint(1, p - 1)) for q in range(-24, 25))) for end in ends]


def small_members(source, p, stride):
    """Members of few rooms, mostly: a lap, and for each column a pattern that begins there."""
    members = [(stride, drawn(source, p, 3, 2))]
    for column in range(stride):
        places = [column + stride * height for height in range(source.randint(0, 2) + 1)]
        lamps = [(place, source.randint(1, p - 1)) for place in places]
        behind = [(place, source.randint(1, p - 1)) for place in range(column + 1, stride) if source.random() < 0.3]
        members.append((0, tuple(sorted(dict(lamps + behind).items()))))
    source.shuffle(members)
    return members


def some_asked(source, p, reach=200, many=12):
    """A round within the bounds of what may be asked."""
    return (source.randint(-reach, reach), drawn(source, p, reach, many))


def full_asked(source, p, end):
    return (end, tuple((q, source.randint(1, p - 1)) for q in range(-200, 201)))


def some_row(source, p, members, many=9):
    """The round of a row of members, forward and backward."""
    rounds = [source.choice(members) for at in range(source.randint(0, many))] if members else []
    return put_in_row(p, [one if source.random() < 0.5 else way_back(p, one) for one in rounds])


def times(p, one, n):
    return put_in_row(p, [one if n >= 0 else way_back(p, one)] * abs(n))


def without_copies(p, stride, stairs, pattern):
    """A pattern, less copies of stairs, one lamp after the other until it lies low."""
    for which, stair in enumerate(stairs):
        first, lit = first_and_lit(stair, stride)
        while not lies_low(stride, (stair,), pattern):
            here = [pair for pair in pattern if column_of(pair[0], stride) == first]
            # What is too high is cleared by the stair's highest lamp there, what is too low by its lowest one.
            (place, setting), (foot, lamp) = (here[-1], lit[-1]) if here[-1][0] >= lit[-1][0] else (here[0], lit[0])
            shift = (place - foot) // stride if stride else 0
            pattern = put_together(p, stride, stairs, [(which, shift, -setting * pow(lamp, -1, p))], pattern)
    return pattern


class CrewCase(unittest.TestCase):
    def check_lines(self, many, lines):
        """Just a list of good lines, as [11] tells them."""
        self.assertIs(type(lines), list)
        kinds = {"rest": [str], "member": [str, int], "join": [str, int, int], "times": [str, int, int]}
        for at, line in enumerate(lines):
            self.assertIs(type(line), tuple)
            self.assertEqual([type(thing) for thing in line], kinds[line[0]])
            if line[0] == "member":
                self.assertTrue(0 <= line[1] < many)
            elif line[0] == "join":
                self.assertTrue(0 <= line[1] < at and 0 <= line[2] < at)
            elif line[0] == "times":
                self.assertTrue(0 <= line[1] < at and -100000 <= line[2] <= 100000)

    def check_papers(self, p, members, crew):
        """The form's head and stairs are made of the members."""
        stride, head, stairs = crew.form()
        told = check_untouched(self, crew.papers)
        self.assertIs(type(told), tuple)
        lines, at, ats = told
        self.check_lines(len(members), lines)
        self.assertIs(type(at), int)
        self.assertIs(type(ats), list)
        self.assertEqual({type(number) for number in ats} - {int}, set())
        self.assertTrue(all(0 <= number < len(lines) for number in [at] + ats))
        rounds = worked(p, members, lines)
        self.assertEqual(rounds[at], head)
        self.assertEqual([rounds[number] for number in ats], [(0, stair) for stair in stairs])

    def check_form(self, p, members):
        """All that [13] asks; as there is just one such form, no other one can pass."""
        kept = list(members)
        crew = Crew(p, members)
        form = check_untouched(self, crew.form)
        self.assertEqual(members, kept)
        self.assertIs(type(form), tuple)
        stride, head, stairs = form
        self.assertIs(type(stride), int)
        self.assertEqual(stride, math.gcd(*[end for end, pattern in members]))
        check_round(self, p, head)
        check_stairs(self, p, stride, stairs)
        self.assertEqual(head[0], stride)
        self.assertTrue(lies_low(stride, stairs, head[1]))
        if stride == 0:
            self.assertEqual(head, STILL)
        for at, stair in enumerate(stairs):
            self.assertTrue(lies_low(stride, stairs[at + 1:], stair))
        for one in members:
            laps = times(p, head, -(one[0] // stride) if stride else 0)
            end, pattern = put_in_row(p, [one, laps])
            self.assertEqual((end, without_copies(p, stride, stairs, pattern)), STILL)
        self.check_papers(p, members, crew)
        return crew

    def check_working(self, p, members, one, lines):
        """A working over the members whose last line is a round."""
        self.check_lines(len(members), lines)
        self.assertGreater(len(lines), 0)
        self.assertEqual(worked(p, members, lines)[-1], one)

    def check_room(self, p, members, crew, one):
        """All that [14] asks: as each room has one such round, no other one can pass."""
        stride, head, stairs = crew.form()
        told = check_untouched(self, crew.room, one)
        check_round(self, p, told)
        self.assertTrue(0 <= told[0] < stride if stride else told[0] == one[0])
        self.assertTrue(lies_low(stride, stairs, told[1]))
        # The round is some made round with the told one behind it.
        between = put_in_row(p, [one, way_back(p, told)])
        self.check_working(p, members, between, crew.made(between))
        if told == STILL:
            self.check_working(p, members, one, check_untouched(self, crew.made, one))
        else:
            self.assertIsNone(crew.made(one))
        return told


class TestForms(CrewCase):
    def test_no_member(self):
        for p in SETTINGS:
            crew = self.check_form(p, [])
            self.assertEqual(crew.form(), (0, STILL, ()))
            lines, at, ats = crew.papers()
            self.assertEqual((worked(p, [], lines)[at], ats), (STILL, []))

    def test_written_examples(self):
        for p in SETTINGS:
            less = p - 1
            cases = (
                ([STILL], (0, STILL, ())),
                ([STILL] * 6, (0, STILL, ())),
                ([(1, ())], (1, (1, ()), ())),
                ([(-1, ())], (1, (1, ()), ())),
                ([(6, ()), (-4, ())], (2, (2, ()), ())),
                ([(8, ()), (5, ())], (1, (1, ()), ())),
                ([(3, ((0, 1), (7, less)))], (3, (3, ((0, 1), (7, less))), ())),
                ([(-3, ((0, 1),))], (3, (3, ((3, less),)), ())),
                ([(1, ()), (0, ((5, less),))], (1, (1, ()), (((0, 1),),))),
                ([(1, ()), (1, ((0, 1),))], (1, (1, ()), (((0, 1),),))),
                ([(1, ((9, 1),)), (0, ((0, 1), (1, 1)))], (1, (1, ((0, less),)), (((0, 1), (1, 1)),))),
                ([(2, ()), (0, ((-3, 1), (0, less)))], (2, (2, ()), (((-3, less), (0, 1)),))),
                ([(2, ((4, 1),)), (0, ((-3, 1), (0, less)))], (2, (2, ((1, 1),)), (((-3, less), (0, 1)),))),
                ([(0, ((-3, 1), (5, 1))), (0, ((5, 1),))], (0, STILL, (((-3, 1),), ((5, 1),)))),
                ([(0, ((-24, less), (24, 1)))], (0, STILL, (((-24, 1), (24, less)),))),
            )
            for members, form in cases:
                self.assertEqual(self.check_form(p, members).form(), form)

    def test_drawn_members(self):
        source = chance(501)
        for p in SETTINGS:
            for stride in STRIDES:
                for at in range(12):
                    self.check_form(p, some_members(source, p, stride))

    def test_members_at_the_bounds(self):
        source = chance(502)
        for p in SETTINGS:
            for stride in STRIDES:
                for many in (2, 6):
                    self.check_form(p, full_members(source, p, stride, many))
                self.check_form(p, some_members(source, p, stride, 6, 24))

    def test_members_of_small_rooms(self):
        source = chance(503)
        for p in SETTINGS:
            for stride in range(1, 6):
                for at in range(6):
                    self.check_form(p, small_members(source, p, stride))

    def test_one_form_however_members_are_exchanged(self):
        source = chance(504)
        for p in SETTINGS:
            for stride in STRIDES:
                for at in range(8):
                    members = some_members(source, p, stride)
                    form = Crew(p, members).form()
                    others = source.sample(members, len(members))
                    self.assertEqual(Crew(p, others).form(), form)
                    # One of them twice, and one that does nothing.
                    if others and len(others) < 6:
                        self.assertEqual(Crew(p, others + [source.choice(others)]).form(), form)
                        self.assertEqual(Crew(p, [STILL] + others).form(), form)

    def test_one_form_however_members_are_gone_back(self):
        source = chance(505)
        for p in SETTINGS:
            for stride in STRIDES:
                for at in range(8):
                    # The way back of such members lies within the bounds, too.
                    members = some_members(source, p, stride, reach=source.choice((3, 16)))
                    others = [one if source.random() < 0.4 else way_back(p, one) for one in members]
                    self.assertEqual(Crew(p, others).form(), Crew(p, members).form())

    def test_one_form_however_members_are_joined(self):
        source = chance(506)
        found = 0
        for p in SETTINGS:
            for stride in STRIDES:
                for at in range(8):
                    members = some_members(source, p, stride, source.randint(2, 6), 5)
                    others = list(members)
                    for time in range(4):
                        i, j = source.sample(range(len(others)), 2)
                        pair = [others[i], source.choice((others[j], way_back(p, others[j])))]
                        one = put_in_row(p, pair[::source.choice((1, -1))])
                        if not beyond(one, 8, 24):
                            others[i] = one
                            found += 1
                    self.assertEqual(self.check_form(p, others).form(), Crew(p, members).form())
        self.assertGreater(found, 300)

    def test_one_more_member_changes_the_form_just_where_it_is_not_made(self):
        source = chance(507)
        found = {True: 0, False: 0}
        for p in SETTINGS:
            for stride in STRIDES:
                for at in range(8):
                    members = some_members(source, p, stride, source.randint(0, 5), 4)
                    crew = Crew(p, members)
                    one = (source.randint(-8, 8), drawn(source, p, 4, 3))
                    if source.random() < 0.5 and members:
                        one = some_row(source, p, members, 3)
                        one = members[0] if beyond(one, 8, 24) else one
                    same = Crew(p, members + [one]).form() == crew.form()
                    self.assertIs(same, crew.made(one) is not None)
                    found[same] += 1
        self.assertGreater(min(found.values()), 50)


class TestRefusals(CrewCase):
    def test_six_members_and_seven(self):
        for p in SETTINGS:
            self.check_form(p, [(end, ((end, 1),)) for end in range(6)])
            for many in (7, 8, 400):
                check_refused(self, errors.TooMany, Crew, p, [STILL] * many)
            # Too many comes first.
            check_refused(self, errors.TooMany, Crew, p, [(9, ())] * 7)
            check_refused(self, errors.TooFar, Crew, p, [(9, ())] * 6)

    def test_bounds_of_members(self):
        for p in SETTINGS:
            for one in ((8, ()), (-8, ()), (0, ((24, 1),)), (0, ((-24, p - 1),)), (-8, ((-24, 1), (24, 1)))):
                self.check_form(p, [one])
            far = (
                (9, ()), (-9, ()), (0, ((25, 1),)), (0, ((-25, p - 1),)), (8, ((-24, 1), (25, 1))), (10 ** 29, ()),
                (-8, ((-25, 1), (24, 1))), (0, ((10 ** 29, 1),)), (0, ((-10 ** 29, 1), (0, 1))),
            )
            for one in far:
                for at in range(6):
                    members = [(8, ((-24, 1),))] * 5
                    check_refused(self, errors.TooFar, Crew, p, members[:at] + [one] + members[at:])
                check_refused(self, errors.TooFar, Crew, p, [one])


class TestMade(CrewCase):
    def test_written_examples(self):
        for p in SETTINGS:
            crew = Crew(p, [(2, ((0, 1),))])
            self.assertEqual(crew.room((5, ())), (1, ((-4, p - 1), (-2, p - 1))))
            self.assertIsNone(crew.made((1, ())))
            self.assertIsNone(crew.made((2, ())))
            self.assertIsNone(crew.made((0, ((0, 1),))))
            for n in (-9, -1, 0, 1, 2, 90):
                one = times(p, (2, ((0, 1),)), n)
                self.check_working(p, [(2, ((0, 1),))], one, crew.made(one))
                self.assertEqual(crew.room(one), STILL)
            nobody = Crew(p, [])
            self.check_working(p, [], STILL, nobody.made(STILL))
            self.assertIsNone(nobody.made((1, ())))
            self.assertIsNone(nobody.made((0, ((0, 1),))))
            self.assertEqual(nobody.room((7, ((-3, 1),))), (7, ((-3, 1),)))
            still = Crew(p, [(0, ((0, 1), (1, 1)))])
            self.assertIsNone(still.made((0, ((1, 1), (2, 1)))))
            self.check_working(p, [(0, ((0, 1), (1, 1)))], (0, ((0, 1), (1, 1))), still.made((0, ((0, 1), (1, 1)))))
            self.assertEqual(still.room((-4, ((0, 1),))), (-4, ((1, p - 1),)))

    def test_rows_of_members_are_made(self):
        source = chance(511)
        for p in SETTINGS:
            for stride in STRIDES:
                for at in range(6):
                    members = some_members(source, p, stride)
                    crew = Crew(p, members)
                    for one in members + [some_row(source, p, members) for time in range(4)]:
                        self.assertEqual(crew.room(one), STILL)
                        self.check_working(p, members, one, check_untouched(self, crew.made, one))

    def test_workings_spelled_out(self):
        source = chance(512)
        found = {True: 0, False: 0}
        for p in SETTINGS:
            for stride in STRIDES:
                members = some_members(source, p, stride, source.randint(1, 3), 3)
                crew = Crew(p, members)
                for one in members + [some_row(source, p, members, 4) for time in range(2)]:
                    lines = crew.made(one)
                    for many in {len(lines), source.randint(0, len(lines))}:
                        first = lines[:many]
                        rounds = worked(p, members, first)
                        self.assertEqual(len(rounds), many)
                        try:
                            row = spelled(first)
                        except errors.TooLong:
                            found[False] += 1
                            continue
                        found[True] += 1
                        ways = [members[k] if way == 1 else way_back(p, members[k]) for k, way in row]
                        self.assertEqual(put_in_row(p, ways), rounds[-1] if many else STILL)
        self.assertGreater(found[True], 80)

    def test_rooms_of_drawn_rounds(self):
        source = chance(513)
        found = {True: 0, False: 0}
        for p in SETTINGS:
            for stride in STRIDES:
                for at in range(5):
                    members = some_members(source, p, stride)
                    crew = Crew(p, members)
                    for reach in (6, 30, 200):
                        told = self.check_room(p, members, crew, some_asked(source, p, reach))
                        found[told == STILL] += 1
        self.assertGreater(min(found.values()), 15)

    def test_one_room_with_any_made_round_ahead(self):
        source = chance(514)
        for p in SETTINGS:
            for stride in STRIDES:
                for at in range(6):
                    members = some_members(source, p, stride)
                    crew = Crew(p, members)
                    one = some_asked(source, p, 100)
                    told = crew.room(one)
                    self.assertEqual(crew.room(told), told)
                    for time in range(3):
                        ahead = some_row(source, p, members)
                        self.assertEqual(crew.room(put_in_row(p, [ahead, one])), told)
                        self.assertEqual(crew.room(put_in_row(p, [ahead, told])), told)

    def test_rounds_are_in_one_room_just_where_a_made_round_leads_from_the_one_to_the_other(self):
        source = chance(515)
        found = {True: 0, False: 0}
        for p in SETTINGS:
            for stride in range(6):
                for at in range(4):
                    members = small_members(source, p, stride)
                    crew = Crew(p, members)
                    rounds = [some_asked(source, p, 4, 3) for which in range(8)]
                    for one, other in itertools.combinations(rounds, 2):
                        same = crew.room(one) == crew.room(other)
                        between = put_in_row(p, [one, way_back(p, other)])
                        self.assertIs(crew.made(between) is not None, same)
                        found[same] += 1
        self.assertGreater(min(found.values()), 100)

    def test_rounds_at_the_bounds(self):
        source = chance(516)
        for p in SETTINGS:
            for stride in STRIDES:
                for members in (full_members(source, p, stride), some_members(source, p, stride, 3)):
                    crew = Crew(p, members)
                    for end in (200, -200):
                        self.check_room(p, members, crew, full_asked(source, p, end))
                        self.check_room(p, members, crew, (end, ((-200, 1), (200, p - 1))))
                        self.check_room(p, members, crew, (end, ()))

    def test_told_rounds_joined_with_rounds_at_the_bounds(self):
        source = chance(517)
        for p in SETTINGS:
            for stride in STRIDES:
                members = some_members(source, p, stride, source.randint(1, 4), 24)
                crew = Crew(p, members)
                told = [crew.room(full_asked(source, p, 200)), crew.room(some_asked(source, p))]
                if crew.rooms() is None:
                    told += [crew.far_room(100), crew.far_room(-100)]
                for one in told:
                    one = source.choice((one, way_back(p, one)))
                    other = source.choice((full_asked(source, p, -200), some_asked(source, p)))
                    self.check_room(p, members, crew, one)
                    self.check_room(p, members, crew, put_in_row(p, [one, other]))
                    self.check_room(p, members, crew, put_in_row(p, [other, one]))

    def test_somewhat_beyond_the_bounds(self):
        source = chance(518)
        for p in SETTINGS:
            for stride in STRIDES:
                members = some_members(source, p, stride, 3)
                crew = Crew(p, members)
                self.check_room(p, members, crew, (251, ((-260, 1), (270, 1))))


class TestRooms(CrewCase):
    def rooms_of(self, p, form):
        """The number of rooms that [15] tells for a form, None where they are without end."""
        stride, head, stairs = form
        firsts = [first_and_lit(stair, stride)[0] for stair in stairs]
        if stride == 0 or firsts != list(range(stride)):
            return None
        return stride * p ** sum(length_of(stair, stride) for stair in stairs)

    def check_all(self, p, members):
        """The rounds of all rooms: as many as told, rising, none twice, each told for itself."""
        crew = Crew(p, members)
        told = check_untouched(self, crew.all_rooms)
        self.assertIs(type(told), list)
        self.assertEqual(len(told), crew.rooms())
        self.assertEqual(told, sorted(set(told)))
        for one in told:
            check_round(self, p, one)
            self.assertEqual(crew.room(one), one)
        return crew, told

    def check_table(self, p, members):
        """Deeds walked through the table lead where the round that they write leads."""
        crew, told = self.check_all(p, members)
        table = check_untouched(self, crew.table)
        self.assertIs(type(table), list)
        self.assertEqual(len(table), len(told))
        for at, row in enumerate(table):
            self.assertIs(type(row), tuple)
            self.assertEqual([type(number) for number in row], [int, int])
            for deed, number in zip(((1, ()), (0, ((0, 1),))), row):
                one = put_in_row(p, [told[at], deed])
                self.assertEqual(told[number], crew.room(one))
                # A made round leads from there to here: none of the rooms is two.
                back = put_in_row(p, [one, way_back(p, told[number])])
                self.check_working(p, members, back, crew.made(back))
        for column in range(2):
            self.assertEqual(sorted(row[column] for row in table), list(range(len(told))))
        return crew, told, table

    def test_written_examples(self):
        for p in SETTINGS:
            cases = (
                ([(1, ()), (0, ((0, 1),))], 1),
                ([(5, ())] + [(0, ((place, 1),)) for place in range(5)], 5),
                ([(1, ()), (0, ((0, 1), (1, 1)))], p),
                ([(2, ()), (0, ((0, 1), (4, 1))), (0, ((1, 1), (3, 1)))], 2 * p ** 3),
                ([(1, ()), (0, ((-24, 1), (24, 1)))], p ** 48),
                ([(1, ())], None),
                ([(2, ()), (0, ((0, 1),))], None),
                ([(0, ((0, 1),))], None),
                ([], None),
            )
            for members, many in cases:
                told = Crew(p, members).rooms()
                self.assertEqual(told, many)
                self.assertIn(type(told), (int, type(None)))
            crew = Crew(p, [(1, ()), (0, ((0, 1), (1, 1)))])
            self.assertEqual(crew.all_rooms(), [STILL] + [(0, ((0, s),)) for s in range(1, p)])
            # Up leads one room on, at the first lamp; on turns that about.
            self.assertEqual(crew.table(), [(-at % p, (at + 1) % p) for at in range(p)])
            crew = Crew(p, [(3, ())] + [(0, ((place, 1),)) for place in range(3)])
            self.assertEqual(crew.all_rooms(), [(0, ()), (1, ()), (2, ())])
            self.assertEqual(crew.table(), [(1, 0), (2, 1), (0, 2)])

    def test_rooms_of_drawn_crews(self):
        source = chance(521)
        for p in SETTINGS:
            for stride in STRIDES:
                for at in range(10):
                    crew = Crew(p, some_members(source, p, stride))
                    self.assertEqual(crew.rooms(), self.rooms_of(p, crew.form()))
                    self.check_due(p, crew)

    def check_due(self, p, crew):
        """Each refusal just where it is due."""
        many = crew.rooms()
        for asked in (crew.all_rooms, crew.table):
            if many is None:
                check_refused(self, errors.Endless, asked)
            elif many > 300:
                check_refused(self, errors.TooMany, asked)
            else:
                self.assertEqual(len(asked()), many)
        if many is None:
            check_round(self, p, crew.far_room(0))
        else:
            check_refused(self, errors.Counted, crew.far_room, 0)

    def test_tables_of_drawn_crews(self):
        source = chance(522)
        found = 0
        for p in SETTINGS:
            for stride in range(1, 6):
                for at in range(5):
                    members = small_members(source, p, stride)
                    crew = Crew(p, members)
                    self.assertEqual(crew.rooms(), self.rooms_of(p, crew.form()))
                    self.check_due(p, crew)
                    if crew.rooms() is not None and crew.rooms() <= 60:
                        self.check_table(p, members)
                        found += 1
        self.assertGreater(found, 40)

    def test_rows_of_deeds_through_a_table(self):
        source = chance(523)
        for p in SETTINGS:
            members = [(2, ((1, 1),)), (0, ((0, 1), (1, 1), (2, p - 1))), (0, ((1, 1), (3, 1)))]
            crew, told, table = self.check_table(p, members)
            for at in range(30):
                here, one = 0, STILL
                for step in range(source.randint(0, 20)):
                    which = source.randrange(2)
                    here = table[here][which]
                    one = put_in_row(p, [one, ((1, ()), (0, ((0, 1),)))[which]])
                self.assertEqual(told[here], crew.room(one))
            # The members' own deeds lead from the first room back to it.
            for end, pattern in members:
                self.assertEqual(crew.room((end, pattern)), told[0])

    def test_each_count_of_rooms_about_three_hundred(self):
        counts = {2: (256, 320), 3: (243, 324), 5: (250, 375), 7: (245, 343)}
        for p in SETTINGS:
            found = {}
            for stride in range(1, 6):
                for total in range(10):
                    # One column has all the length there is; the others are without.
                    foot = -(total // 2) * stride
                    top = foot + total * stride
                    if top > 24:
                        continue
                    members = [(stride, ())] + [(0, ((place, 1),)) for place in range(1, stride)]
                    members.append((0, ((foot, 1), (top, 1)) if total else ((0, 1),)))
                    many = stride * p ** total
                    self.assertEqual(Crew(p, members).rooms(), many)
                    found[many] = members
            below, above = counts[p]
            self.assertEqual(max(many for many in found if many <= 300), below)
            self.assertEqual(min(many for many in found if many > 300), above)
            self.check_table(p, found[below])
            for many in found:
                self.check_due(p, Crew(p, found[many]))

    def test_endless_where_one_column_is_missing(self):
        for p in SETTINGS:
            for stride in range(1, 6):
                members = [(stride, ())] + [(0, ((place, 1),)) for place in range(stride)]
                self.check_due(p, Crew(p, members))
                self.assertEqual(Crew(p, members).rooms(), stride)
                for at in range(1, stride + 1):
                    crew = Crew(p, members[:at] + members[at + 1:])
                    self.assertIsNone(crew.rooms())
                    self.check_due(p, crew)
                crew = Crew(p, members[1:])
                self.assertIsNone(crew.rooms())
                self.check_due(p, crew)

    def check_far(self, p, crew):
        rooms = {}
        for k in range(-100, 101):
            one = check_untouched(self, crew.far_room, k) if k % 20 == 0 else crew.far_room(k)
            check_round(self, p, one)
            self.assertFalse(beyond(one, 2000, 2000))
            rooms[crew.room(one)] = k
        self.assertEqual(len(rooms), 201)

    def test_far_rooms(self):
        source = chance(524)
        found = 0
        for p in SETTINGS:
            self.check_far(p, Crew(p, []))
            for stride in STRIDES:
                for members in (some_members(source, p, stride), full_members(source, p, stride, 2)):
                    crew = Crew(p, members)
                    if crew.rooms() is None:
                        self.check_far(p, crew)
                        found += 1
                    else:
                        for k in (-100, 0, 1, 100):
                            check_refused(self, errors.Counted, crew.far_room, k)
        self.assertGreater(found, 40)

    def test_far_rooms_where_each_one_column_is_free(self):
        for p in SETTINGS:
            for stride in range(1, 6):
                for free in range(stride):
                    stairs = [(0, ((column, 1),)) for column in range(stride) if column != free]
                    self.check_far(p, Crew(p, [(stride, ((free, 1),))] + stairs))


class TestPairs(CrewCase):
    def check_pair(self, p, members, others):
        """What `within` and `apart` tell of two crews, each way about."""
        one, other = Crew(p, members), Crew(p, others)
        made = all(other.made(member) is not None for member in members)
        self.assertIs(check_untouched(self, lambda: within(one, other)), made)
        told = check_untouched(self, lambda: apart(one, other))
        self.assertIs(told is None, one.form() == other.form())
        self.assertIs(told is None, within(one, other) and within(other, one))
        if told is not None:
            self.assertIs(type(told), tuple)
            which, lone = told
            check_round(self, p, lone)
            self.assertFalse(beyond(lone, 200, 200))
            makes, lacks = {"first": (one, other), "second": (other, one)}[which]
            self.check_working(p, members if which == "first" else others, lone, makes.made(lone))
            self.assertIsNone(lacks.made(lone))
        return told

    def test_written_examples(self):
        for p in SETTINGS:
            self.assertIsNone(self.check_pair(p, [], []))
            self.assertIsNone(self.check_pair(p, [], [STILL]))
            self.assertEqual(self.check_pair(p, [(1, ())], [])[0], "first")
            self.assertEqual(self.check_pair(p, [], [(1, ())])[0], "second")
            self.assertEqual(self.check_pair(p, [(1, ())], [(2, ())])[0], "first")
            self.assertEqual(self.check_pair(p, [(4, ())], [(2, ())])[0], "second")
            self.assertIsNone(self.check_pair(p, [(2, ()), (3, ())], [(-1, ())]))
            self.assertIsNotNone(self.check_pair(p, [(1, ())], [(1, ((0, 1),))]))
            self.assertIs(within(Crew(p, []), Crew(p, [])), True)
            self.assertIs(within(Crew(p, [(4, ())]), Crew(p, [(2, ())])), True)
            self.assertIs(within(Crew(p, [(2, ())]), Crew(p, [(4, ())])), False)

    def test_drawn_pairs(self):
        source = chance(531)
        found = {None: 0, "first": 0, "second": 0}
        for p in SETTINGS:
            for stride in STRIDES:
                for at in range(6):
                    members = some_members(source, p, stride, source.randint(0, 4), 5)
                    # The others are made of the members, or have one more, or are unlike.
                    others = [some_row(source, p, members, 2) for which in range(source.randint(0, 4))]
                    others = [one for one in others if not beyond(one, 8, 24)]
                    if source.random() < 0.5:
                        others = others[:2] + members
                    if source.random() < 0.3:
                        others = others[:5] + some_members(source, p, stride, 1, 5)
                    pair = source.sample((members, others), 2)
                    told = self.check_pair(p, pair[0], pair[1])
                    found[told[0] if told else None] += 1
        self.assertGreater(min(found.values()), 20)

    def test_a_crew_at_the_bounds_beside_another(self):
        source = chance(532)
        for p in SETTINGS:
            for stride in STRIDES:
                self.check_pair(p, full_members(source, p, stride), full_members(source, p, stride, 2))


class TestLists(CrewCase):
    def test_a_member_list_that_is_changed_afterwards(self):
        source = chance(541)
        for p in SETTINGS:
            for stride in STRIDES:
                members = some_members(source, p, stride, source.randint(1, 5))
                kept = list(members)
                crew = Crew(p, members)
                form, one = crew.form(), some_asked(source, p)
                room = crew.room(one)
                members[0] = (7, ((3, 1),))
                members.append((1, ()))
                self.assertEqual((crew.form(), crew.room(one)), (form, room))
                self.check_papers(p, kept, crew)
                self.check_working(p, kept, kept[0], crew.made(kept[0]))
                same = Crew(p, kept)
                self.assertIsNone(apart(crew, same))
                members.clear()
                self.assertIs(within(same, crew) and within(crew, same), True)
                self.assertEqual(crew.form(), form)

    def test_crews_do_not_touch_one_another(self):
        for p in SETTINGS:
            one, other = Crew(p, [(1, ())]), Crew(p, [(2, ()), (0, ((0, 1),))])
            form = one.form()
            other.papers()[0].clear()
            other.made((4, ())).clear()
            self.assertEqual(one.form(), form)
            self.check_papers(p, [(1, ())], one)
            self.check_papers(p, [(2, ()), (0, ((0, 1),))], other)


if __name__ == "__main__":
    unittest.main()
