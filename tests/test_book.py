"""Promises [19], [20] and [21]: books, their deeds, what is undone and held, and what is refused."""

import copy
import unittest

from duskround import errors
from duskround.book import Book
from duskround.crews import Crew
from duskround.works import worked
from helper import (
    SETTINGS, beyond, chance, check_refused, check_round, check_untouched, put_in_row, walked_rounds, way_back,
)

GOOD_NAMES = ("a", "z", "ab", "abcdefghijkl", "zzzzzzzzzzzz", "lamp")
BAD_NAMES = (
    "", "abcdefghijklm", "a" * 30, "A", "aB", "a b", " a", "a ", " ", "a1", "1", "0", "a_b", "_", "a-b", "~", "a~", "{",
    "`", "a.", "round:", "=", "@", "[",
)
STILL = (0, ())


def deeds_of(one):
    """A row of deeds that writes a round."""
    deeds = []
    here = 0
    for place, setting in one[1] + ((one[0], 0),):
        deeds += [("go", place - here), ("turn", setting)]
        here = place
    return deeds


class Plain:
    """A plain keeping: after each deed a whole copy of what stood before; each deed tells its refusal, or None."""

    def __init__(self, p):
        self.p = p
        self.rounds = {}
        self.crews = {}
        self.before = []
        self.behind = []
        self.held = []

    def both(self):
        return copy.deepcopy((self.rounds, self.crews))

    def do(self, deed, *things):
        """Does a deed; what is refused leaves everything as it was."""
        kept = self.both()
        refusal = getattr(self, deed)(*things)
        if deed in ("undo", "redo", "hold"):
            return refusal
        if refusal is None:
            self.before.append(kept)
            self.behind = []
        else:
            self.rounds, self.crews = kept
        return refusal

    def is_name(self, name):
        return 1 <= len(name) <= 12 and all("a" <= sign <= "z" for sign in name)

    def give(self, name, one):
        if beyond(one, 200, 200):
            return errors.TooFar
        if any(name in crew for crew in self.crews.values()) and beyond(one, 8, 24):
            return errors.TooFar
        self.rounds[name] = one

    def tell(self, name, deeds):
        if not self.is_name(name):
            return errors.BadName
        if any(word not in ("go", "turn") for word, k in deeds):
            return errors.NoDeed
        return self.give(name, walked_rounds(self.p, [(k, ()) if w == "go" else (0, ((0, k),)) for w, k in deeds]))

    def give_row(self, name, named, way):
        if not self.is_name(name):
            return errors.BadName
        if any(one not in self.rounds for one in named):
            return errors.NoRound
        rounds = [self.rounds[one] for one in named]
        return self.give(name, put_in_row(self.p, [one if way == 1 else way_back(self.p, one) for one in rounds]))

    def join_as(self, name, one, other):
        return self.give_row(name, [one, other], 1)

    def back_as(self, name, one):
        return self.give_row(name, [one], -1)

    def times_as(self, name, one, n):
        if n == 0 and self.is_name(name) and one in self.rounds:
            return self.give(name, STILL)
        return self.give_row(name, [one] * max(abs(n), 1), 1 if n > 0 else -1)

    def drop(self, name):
        if name not in self.rounds:
            return errors.NoRound
        if any(name in crew for crew in self.crews.values()):
            return errors.InUse
        del self.rounds[name]

    def found(self, crew):
        if not self.is_name(crew):
            return errors.BadName
        if crew in self.crews:
            return errors.Taken
        self.crews[crew] = []

    def disband(self, crew):
        if crew not in self.crews:
            return errors.NoCrew
        del self.crews[crew]

    def enlist(self, crew, name):
        if crew not in self.crews:
            return errors.NoCrew
        if name not in self.rounds:
            return errors.NoRound
        if name in self.crews[crew]:
            return errors.Taken
        if len(self.crews[crew]) == 6:
            return errors.TooMany
        if beyond(self.rounds[name], 8, 24):
            return errors.TooFar
        self.crews[crew].append(name)

    def dismiss(self, crew, name):
        if crew not in self.crews:
            return errors.NoCrew
        if name not in self.crews[crew]:
            return errors.NoRound
        self.crews[crew].remove(name)

    def undo(self):
        if not self.before:
            return errors.NoMore
        self.behind.append(self.both())
        self.rounds, self.crews = self.before.pop()

    def redo(self):
        if not self.behind:
            return errors.NoMore
        self.before.append(self.both())
        self.rounds, self.crews = self.behind.pop()

    def hold(self):
        self.held.append(self.both())

    def return_to(self, k):
        if k not in range(len(self.held)):
            return errors.NoState
        self.rounds, self.crews = copy.deepcopy(self.held[k])


def some_deed(source, p, names, crews, held):
    """A deed with its things, good and bad ones."""
    name, one, other = [source.choice(names) for which in range(3)]
    crew = source.choice(crews)
    if source.random() < 0.05:
        name, crew = source.choice(BAD_NAMES), source.choice(BAD_NAMES)
    if source.random() < 0.05:
        one = source.choice(BAD_NAMES + ("nobody",))
    k = source.choice((1, 2, 3, 8, 9, 24, 25))
    steps = [("go", source.randint(-k, k)) if at % 2 else ("turn", source.randint(-9, 9)) for at in range(6)]
    # Going back to the begin, or two places from there, makes for strides of all kinds.
    gone = sum(far for word, far in steps if word == "go")
    steps.append(("go", source.choice((0, -gone, -gone, 2 - gone, 4 - gone))))
    if source.random() < 0.05:
        steps.insert(source.randint(0, 7), (source.choice(("", "Go", "on", "turns")), 1))
    steps = tuple(steps)
    often = {
        ("tell", name, steps): 10, ("join_as", name, one, other): 3, ("back_as", name, one): 3, ("drop", name): 2,
        ("times_as", name, one, source.choice((-50, -7, -1, 0, 1, 2, 3, 50))): 3, ("found", crew): 4,
        ("disband", crew): 1, ("enlist", crew, name): 24, ("dismiss", crew, name): 2, ("undo",): 5, ("redo",): 4,
        ("hold",): 2, ("return_to", source.randint(-1, held)): 1,
    }
    word, *things = source.choices(list(often), list(often.values()))[0]
    return (word, *[list(thing) if isinstance(thing, tuple) else thing for thing in things])


class BookCase(unittest.TestCase):
    def do(self, book, *deed):
        """Does a deed, which tells None."""
        self.assertIsNone(getattr(book, deed[0])(*deed[1:]))

    def refuse(self, kind, book, *deed):
        """A refused deed, by just that class, that changes nothing."""
        stood = self.all_of(book)
        check_refused(self, kind, getattr(book, deed[0]), *deed[1:])
        self.assertEqual(self.all_of(book), stood)

    def all_of(self, book):
        """All that stands in a book."""
        rounds = {name: book.round_of(name) for name in book.names()}
        return (rounds, {crew: book.members(crew) for crew in book.crews()})

    def told(self, p, rounds):
        """A book with rounds by name."""
        book = Book(p)
        for name, one in rounds.items():
            self.do(book, "tell", name, deeds_of(one))
        self.assertEqual(self.all_of(book)[0], rounds)
        return book

    def check_crews(self, p, book):
        """What is told of crews is what a crew of the members' rounds of now tells."""
        for crew in book.crews():
            members = [book.round_of(name) for name in book.members(crew)]
            plain = Crew(p, members)
            self.assertEqual(check_untouched(self, book.form, crew), plain.form())
            self.assertEqual(book.rooms(crew), plain.rooms())
            for name in book.names()[:5]:
                one = book.round_of(name)
                self.assertEqual(book.room(crew, name), plain.room(one))
                lines = book.made(crew, name)
                self.assertEqual(lines is None, plain.made(one) is None)
                if lines is not None:
                    self.assertIs(type(lines), list)
                    self.assertEqual(worked(p, members, lines)[-1], one)
            for other in book.crews():
                self.assertIs(book.same(crew, other), plain.form() == book.form(other))


class TestBooks(BookCase):
    def test_settings(self):
        for p in SETTINGS:
            book = Book(p)
            self.assertEqual(book.settings(), p)
            self.assertIs(type(book.settings()), int)
            self.assertEqual((book.names(), book.crews()), ([], []))
        for p in (0, 1, 4, 6, 8, 9, 11, 13, -2, -3, 49, 10 ** 29, -10 ** 29):
            check_refused(self, errors.BadCount, Book, p)

    def test_each_deed_that_gives_a_round(self):
        for p in SETTINGS:
            book = Book(p)
            one, other = (2, ((0, 1), (1, p - 1))), (-3, ((4, 1),))
            self.do(book, "tell", "one", [("turn", 1), ("go", 1), ("turn", -1), ("go", 1)])
            self.do(book, "tell", "other", [("go", 4), ("turn", p + 1), ("go", -7)])
            self.assertEqual(book.round_of("one"), one)
            self.assertEqual(book.round_of("other"), other)
            self.do(book, "join_as", "both", "one", "other")
            self.assertEqual(book.round_of("both"), walked_rounds(p, [one, other]))
            self.do(book, "join_as", "htob", "other", "one")
            self.assertEqual(book.round_of("htob"), walked_rounds(p, [other, one]))
            self.do(book, "back_as", "back", "one")
            self.assertEqual(book.round_of("back"), way_back(p, one))
            for n in range(-50, 51):
                self.do(book, "times_as", "often", "one", n)
                row = [one if n > 0 else way_back(p, one)] * abs(n)
                self.assertEqual(book.round_of("often"), put_in_row(p, row))
            self.do(book, "tell", "none", [])
            self.assertEqual(book.round_of("none"), STILL)
            for name in book.names():
                check_round(self, p, book.round_of(name))
            self.assertEqual(book.names(), ["back", "both", "htob", "none", "often", "one", "other"])

    def test_the_name_may_be_one_of_those_that_are_joined(self):
        for p in SETTINGS:
            one, other = (1, ((0, 1),)), (2, ((5, 1),))
            for deed, row in (
                (("join_as", "a", "a", "b"), [one, other]), (("join_as", "a", "b", "a"), [other, one]),
                (("join_as", "a", "a", "a"), [one, one]), (("back_as", "a", "a"), [way_back(p, one)]),
                (("times_as", "a", "a", 3), [one] * 3), (("times_as", "a", "a", 0), []),
            ):
                book = self.told(p, {"a": one, "b": other})
                self.do(book, *deed)
                self.assertEqual(self.all_of(book)[0], {"a": put_in_row(p, row), "b": other})

    def test_rounds_keep_what_the_others_had_then(self):
        for p in SETTINGS:
            book = self.told(p, {"a": (1, ()), "b": (2, ())})
            self.do(book, "join_as", "c", "a", "b")
            self.do(book, "tell", "a", [("go", 50)])
            self.assertEqual(book.round_of("c"), (3, ()))
            self.do(book, "drop", "a")
            self.assertEqual(book.round_of("c"), (3, ()))

    def test_names(self):
        for p in SETTINGS:
            book = self.told(p, {"here": (1, ())})
            for name in GOOD_NAMES:
                self.do(book, "tell", name, [("go", 2)])
                self.do(book, "found", name)
            self.assertEqual(book.names(), sorted(GOOD_NAMES + ("here",)))
            # A round and a crew may have the same name.
            self.assertEqual(book.crews(), sorted(GOOD_NAMES))
            for name in BAD_NAMES:
                for deed in (("tell", name, []), ("join_as", name, "here", "here"), ("back_as", name, "here"),
                             ("times_as", name, "here", 2), ("found", name)):
                    self.refuse(errors.BadName, book, *deed)
                for deed in (("join_as", "x", name, "here"), ("join_as", "x", "here", name), ("back_as", "x", name),
                             ("times_as", "x", name, 2), ("drop", name), ("enlist", "a", name), ("dismiss", "a", name),
                             ("round_of", name), ("room", "a", name), ("made", "a", name)):
                    self.refuse(errors.NoRound, book, *deed)
                for deed in (("disband", name), ("enlist", name, "here"), ("dismiss", name, "here"), ("members", name),
                             ("form", name), ("rooms", name), ("room", name, "here"), ("made", name, "here"),
                             ("same", name, "a"), ("same", "a", name)):
                    self.refuse(errors.NoCrew, book, *deed)

    def test_members_in_their_order(self):
        for p in SETTINGS:
            book = self.told(p, {name: (1, ((ord(name) - 100, 1),)) for name in "abcdef"})
            self.do(book, "found", "crew")
            self.assertEqual(book.members("crew"), [])
            for name in "daebfc":
                self.do(book, "enlist", "crew", name)
            self.assertEqual(book.members("crew"), list("daebfc"))
            self.do(book, "dismiss", "crew", "e")
            self.assertEqual(book.members("crew"), list("dabfc"))
            self.do(book, "enlist", "crew", "e")
            self.assertEqual(book.members("crew"), list("dabfce"))
            members = [book.round_of(name) for name in "dabfce"]
            for name in "abcdef":
                # The members are numbered in their order, not by their names.
                lines = book.made("crew", name)
                self.assertEqual(worked(p, members, lines)[-1], book.round_of(name))

    def test_a_round_told_anew_changes_every_crew(self):
        for p in SETTINGS:
            book = self.told(p, {"a": (2, ()), "b": (0, ((0, 1),))})
            for crew in ("x", "y"):
                self.do(book, "found", crew)
                self.do(book, "enlist", crew, "a")
            self.do(book, "enlist", "y", "b")
            self.assertEqual(book.form("x"), (2, (2, ()), ()))
            self.assertEqual(book.form("y"), (2, (2, ()), (((0, 1),),)))
            self.assertIs(book.same("x", "y"), False)
            self.assertIsNone(book.rooms("y"))
            self.do(book, "tell", "a", [("go", -1)])
            self.assertEqual(book.form("x"), (1, (1, ()), ()))
            self.assertEqual(book.form("y"), (1, (1, ()), (((0, 1),),)))
            self.assertEqual(book.rooms("y"), 1)
            self.assertEqual(book.room("y", "b"), STILL)
            self.do(book, "times_as", "b", "b", 0)
            self.assertIs(book.same("x", "y"), True)
            self.do(book, "undo")
            self.assertIs(book.same("x", "y"), False)
            self.check_crews(p, book)


class TestBookRefusals(BookCase):
    def test_rounds_at_two_hundred_and_beyond(self):
        for p in SETTINGS:
            for one in ((200, ()), (-200, ()), (0, ((200, 1),)), (0, ((-200, 1),)), (200, ((-200, 1), (200, p - 1)))):
                self.told(p, {"a": one})
            book = self.told(p, {"hundred": (100, ((100, 1),)), "back": (-100, ()), "one": (1, ()), "a": (5, ())})
            for deeds in ([("go", 201)], [("go", -201)], [("go", 201), ("turn", 1), ("go", -201)],
                          [("go", -201), ("turn", 1), ("go", 201)], [("go", 10 ** 29)], [("go", -10 ** 29)]):
                for name in ("a", "new"):
                    self.refuse(errors.TooFar, book, "tell", name, deeds)
            # On the way one may go as far as one likes, and turn lamps that are turned back.
            self.do(book, "tell", "far", [("go", 10 ** 29), ("turn", 1), ("turn", -1), ("go", -10 ** 29)])
            self.do(book, "join_as", "full", "hundred", "hundred")
            self.assertEqual(book.round_of("full"), (200, ((100, 1), (200, 1))))
            for deed in (("join_as", "a", "full", "one"), ("join_as", "a", "one", "full"), ("times_as", "a", "one", 201),
                         ("times_as", "a", "hundred", 3), ("times_as", "a", "back", 3), ("times_as", "a", "one", -201)):
                self.refuse(errors.TooFar, book, *deed)
            self.do(book, "times_as", "a", "one", 200)
            # The way back of a lamp far ahead of the end lies far, too.
            self.do(book, "tell", "wide", [("go", 101), ("turn", 1), ("go", -201)])
            self.refuse(errors.TooFar, book, "back_as", "a", "wide")
            self.do(book, "tell", "wide", [("go", 100), ("turn", 1), ("go", -200)])
            self.do(book, "back_as", "a", "wide")
            self.assertEqual(book.round_of("a"), (100, ((200, p - 1),)))

    def test_members_at_the_bounds_and_beyond(self):
        for p in SETTINGS:
            near = {"a": (8, ()), "b": (-8, ()), "c": (0, ((24, 1),)), "d": (0, ((-24, 1),)), "e": (8, ((-24, 1),))}
            far = {"v": (9, ()), "w": (-9, ()), "x": (0, ((25, 1),)), "y": (0, ((-25, 1),)), "z": (8, ((24, 1), (25, 1)))}
            book = self.told(p, {**near, **far, "still": STILL})
            self.do(book, "found", "crew")
            for name in near:
                self.do(book, "enlist", "crew", name)
            for name in far:
                self.refuse(errors.TooFar, book, "enlist", "crew", name)
            for member in near:
                for name, one in far.items():
                    self.refuse(errors.TooFar, book, "tell", member, deeds_of(one))
                    self.refuse(errors.TooFar, book, "join_as", member, name, "still")
                    self.refuse(errors.TooFar, book, "join_as", member, "still", name)
                    self.refuse(errors.TooFar, book, "times_as", member, name, 1)
                    self.do(book, "tell", "free", deeds_of(way_back(p, one)))
                    self.refuse(errors.TooFar, book, "back_as", member, "free")
            for name, one in near.items():
                for other in near.values():
                    self.do(book, "tell", name, deeds_of(other))
            # Once it is dismissed from every crew it may lie farther again.
            self.do(book, "dismiss", "crew", "a")
            self.do(book, "tell", "a", [("go", 200)])
            self.check_crews(p, book)

    def test_six_members_and_seven(self):
        for p in SETTINGS:
            book = self.told(p, {name: (0, ((ord(name) - 97, 1),)) for name in "abcdefg"})
            self.do(book, "found", "crew")
            for name in "abcdef":
                self.do(book, "enlist", "crew", name)
            self.refuse(errors.TooMany, book, "enlist", "crew", "g")
            self.refuse(errors.Taken, book, "enlist", "crew", "a")
            self.do(book, "dismiss", "crew", "c")
            self.do(book, "enlist", "crew", "g")
            self.assertEqual(book.members("crew"), list("abdefg"))

    def test_drop_and_disband(self):
        for p in SETTINGS:
            book = self.told(p, {"a": (1, ()), "b": (2, ())})
            self.refuse(errors.NoRound, book, "drop", "c")
            self.do(book, "found", "crew")
            self.do(book, "found", "other")
            for crew in ("crew", "other"):
                self.do(book, "enlist", crew, "a")
            self.refuse(errors.InUse, book, "drop", "a")
            self.do(book, "drop", "b")
            self.refuse(errors.NoRound, book, "drop", "b")
            self.do(book, "dismiss", "crew", "a")
            self.refuse(errors.InUse, book, "drop", "a")
            self.do(book, "disband", "other")
            self.refuse(errors.NoCrew, book, "disband", "other")
            self.do(book, "drop", "a")
            self.assertEqual((book.names(), book.crews()), ([], ["crew"]))
            self.do(book, "found", "other")
            self.assertEqual(book.members("other"), [])

    def test_the_order_of_refusals(self):
        for p in SETTINGS:
            rounds = {name: (0, ((ord(name) - 97, 1),)) for name in "abcdefg"}
            book = self.told(p, {**rounds, "far": (199, ())})
            self.do(book, "found", "crew")
            for name in "abcdef":
                self.do(book, "enlist", "crew", name)
            bad = [("go", 201), ("fly", 1)]
            cases = (
                (errors.BadName, "tell", "A", bad),
                (errors.NoDeed, "tell", "a", bad),
                (errors.NoDeed, "tell", "new", bad[::-1]),
                (errors.TooFar, "tell", "a", bad[:1]),
                (errors.BadName, "join_as", "A", "nobody", "far"),
                (errors.BadName, "join_as", "", "far", "far"),
                (errors.NoRound, "join_as", "a", "nobody", "far"),
                (errors.NoRound, "join_as", "a", "far", "nobody"),
                (errors.TooFar, "join_as", "a", "far", "far"),
                (errors.BadName, "back_as", "a1", "nobody"),
                (errors.BadName, "back_as", "a1", "far"),
                (errors.NoRound, "back_as", "a", "nobody"),
                (errors.TooFar, "back_as", "a", "far"),
                (errors.BadName, "times_as", "a ", "nobody", 50),
                (errors.BadName, "times_as", "a ", "far", 50),
                (errors.NoRound, "times_as", "a", "nobody", 50),
                (errors.TooFar, "times_as", "a", "far", 50),
                (errors.NoRound, "drop", "Far"),
                (errors.InUse, "drop", "a"),
                (errors.BadName, "found", "Crew"),
                (errors.Taken, "found", "crew"),
                (errors.NoCrew, "enlist", "nobody", "nobody"),
                (errors.NoCrew, "enlist", "nobody", "a"),
                (errors.NoRound, "enlist", "crew", "nobody"),
                (errors.Taken, "enlist", "crew", "a"),
                (errors.TooMany, "enlist", "crew", "far"),
                (errors.TooMany, "enlist", "crew", "g"),
                (errors.NoCrew, "dismiss", "nobody", "nobody"),
                (errors.NoRound, "dismiss", "crew", "nobody"),
                (errors.NoRound, "dismiss", "crew", "g"),
                (errors.NoCrew, "room", "nobody", "nobody"),
                (errors.NoRound, "room", "crew", "nobody"),
                (errors.NoCrew, "made", "nobody", "nobody"),
                (errors.NoRound, "made", "crew", "nobody"),
                (errors.NoCrew, "same", "nobody", "crew"),
                (errors.NoCrew, "same", "crew", "nobody"),
                (errors.NoCrew, "members", "a"),
                (errors.NoRound, "round_of", "crew"),
            )
            for case in cases:
                self.refuse(case[0], book, *case[1:])
            self.do(book, "dismiss", "crew", "a")
            self.refuse(errors.TooFar, book, "enlist", "crew", "far")
            # A deed with a wrong word far behind a good one is refused before any of it is done.
            self.refuse(errors.NoDeed, book, "tell", "a", [("go", 1)] * 399 + [("", 1)])


class TestUndone(BookCase):
    def test_nothing_to_undo(self):
        for p in SETTINGS:
            book = Book(p)
            self.refuse(errors.NoMore, book, "undo")
            self.refuse(errors.NoMore, book, "redo")
            self.do(book, "tell", "a", [])
            self.refuse(errors.NoMore, book, "redo")
            self.do(book, "undo")
            self.refuse(errors.NoMore, book, "undo")
            self.do(book, "redo")
            self.refuse(errors.NoMore, book, "redo")
            self.assertEqual(book.names(), ["a"])

    def test_every_deed_is_undone_and_done_again(self):
        for p in SETTINGS:
            book = Book(p)
            book.hold()
            stood = [self.all_of(book)]
            for deed in (
                ("tell", "a", [("go", 1)]), ("tell", "b", [("turn", 1)]), ("join_as", "c", "a", "b"),
                ("back_as", "a", "a"), ("times_as", "b", "c", 5), ("found", "x"), ("enlist", "x", "a"),
                ("enlist", "x", "b"), ("dismiss", "x", "b"), ("drop", "b"), ("found", "y"), ("disband", "x"),
                # Deeds that leave everything as it was are deeds, too.
                ("tell", "a", [("go", -1)]), ("times_as", "a", "a", 1), ("return_to", 0), ("return_to", 0),
            ):
                self.do(book, *deed)
                stood.append(self.all_of(book))
            for time in range(2):
                for state in stood[-2::-1]:
                    self.do(book, "undo")
                    self.assertEqual(self.all_of(book), state)
                self.refuse(errors.NoMore, book, "undo")
                for state in stood[1:]:
                    self.do(book, "redo")
                    self.assertEqual(self.all_of(book), state)
                self.refuse(errors.NoMore, book, "redo")

    def test_what_was_undone_is_gone_with_a_new_deed_alone(self):
        for p in SETTINGS:
            book = self.told(p, {"a": (1, ()), "b": (2, ())})
            self.do(book, "undo")
            # None of these is a deed that was done.
            self.refuse(errors.NoRound, book, "drop", "b")
            self.refuse(errors.BadName, book, "tell", "B", [])
            self.refuse(errors.NoState, book, "return_to", 0)
            self.assertEqual(book.hold(), 0)
            book.names(), book.crews(), book.round_of("a"), book.settings()
            self.do(book, "redo")
            self.assertEqual(book.names(), ["a", "b"])
            for deed in (("tell", "a", [("go", 1)]), ("found", "x"), ("return_to", 0), ("back_as", "c", "a")):
                self.do(book, "undo")
                self.do(book, *deed)
                self.refuse(errors.NoMore, book, "redo")
                self.do(book, "undo")
                self.do(book, "redo")

    def test_held_numbers(self):
        for p in SETTINGS:
            book = Book(p)
            for k in (0, 1, -1, 10 ** 29, -10 ** 29):
                self.refuse(errors.NoState, book, "return_to", k)
            states = []
            for k in range(8):
                self.do(book, "tell", "a", [("go", k)])
                told = book.hold()
                self.assertIs(type(told), int)
                self.assertEqual(told, k)
                states.append(self.all_of(book))
                if k % 3 == 2:
                    # Holding isn't undone, and its numbers go on.
                    self.do(book, "undo")
                    self.do(book, "undo")
                for bad in (-1, -k - 1, k + 1):
                    self.refuse(errors.NoState, book, "return_to", bad)
            for k in (3, 0, 7, 7, 1):
                self.do(book, "return_to", k)
                self.assertEqual(self.all_of(book), states[k])
            self.do(book, "undo")
            self.assertEqual(self.all_of(book), states[7])

    def test_what_is_held_does_not_change(self):
        for p in SETTINGS:
            book = self.told(p, {"a": (2, ())})
            self.do(book, "found", "x")
            self.do(book, "enlist", "x", "a")
            self.assertEqual(book.hold(), 0)
            stood, form = self.all_of(book), book.form("x")
            self.do(book, "tell", "a", [("go", 1)])
            self.do(book, "dismiss", "x", "a")
            self.do(book, "drop", "a")
            self.do(book, "return_to", 0)
            self.assertEqual((self.all_of(book), book.form("x")), (stood, form))
            self.do(book, "tell", "a", [("go", 3)])
            self.do(book, "return_to", 0)
            self.assertEqual((self.all_of(book), book.form("x")), (stood, form))


class TestLongRows(BookCase):
    def run_row(self, seed, p, many, names, crews, asked):
        """A long row of deeds, done to a book and to a plain keeping."""
        source = chance(seed)
        book, plain = Book(p), Plain(p)
        refused = {}
        for at in range(many):
            deed = some_deed(source, p, names, crews, len(plain.held))
            refusal = plain.do(*deed)
            if refusal is not None:
                check_refused(self, refusal, getattr(book, deed[0]), *deed[1:])
                refused[refusal] = True
            elif deed[0] == "hold":
                self.assertEqual(book.hold(), len(plain.held) - 1)
            else:
                self.do(book, *deed)
            self.assertEqual(self.all_of(book), plain.both())
            self.assertEqual(book.names(), sorted(plain.rounds))
            self.assertEqual(book.crews(), sorted(plain.crews))
            if at % asked == 0:
                self.check_crews(p, book)
        return refused

    def test_long_rows_of_deeds(self):
        refused = {}
        for p in SETTINGS:
            refused.update(self.run_row(700 + p, p, 3000, list("abcdefgh"), ["x", "y", "a"], 25))
            refused.update(self.run_row(710 + p, p, 1500, list("abc"), ["x"], 10))
        due = (errors.BadName, errors.NoDeed, errors.TooFar, errors.NoRound, errors.InUse, errors.Taken, errors.NoCrew,
               errors.TooMany, errors.NoMore, errors.NoState)
        self.assertEqual([kind for kind in due if kind not in refused], [])

    def test_crews_asked_behind_each_deed(self):
        for p in SETTINGS:
            self.run_row(720 + p, p, 300, list("abcd"), ["x", "y"], 1)

    def test_two_books_at_once(self):
        source = chance(730)
        for p in SETTINGS:
            books = [(Book(p), Plain(p)), (Book(7 if p == 2 else 2), Plain(7 if p == 2 else 2)), (Book(p), Plain(p))]
            for at in range(300):
                book, plain = source.choice(books)
                deed = some_deed(source, p, list("abcd"), ["x", "y"], len(plain.held))
                refusal = plain.do(*deed)
                if refusal is not None:
                    check_refused(self, refusal, getattr(book, deed[0]), *deed[1:])
                else:
                    getattr(book, deed[0])(*deed[1:])
                for other, kept in books:
                    self.assertEqual(self.all_of(other), kept.both())
                    self.assertEqual(other.settings(), kept.p)


class TestBookLists(BookCase):
    def test_lists_that_are_changed_afterwards(self):
        for p in SETTINGS:
            book = Book(p)
            deeds = [("go", 1), ("turn", 1)]
            book.tell("a", deeds)
            deeds.append(("go", 5))
            deeds[0] = ("go", 3)
            self.assertEqual(book.round_of("a"), (1, ((1, 1),)))
            book.found("x")
            book.enlist("x", "a")
            for asked in ((book.names,), (book.crews,), (book.members, "x"), (book.made, "x", "a"), (book.form, "x"),
                          (book.room, "x", "a"), (book.rooms, "x"), (book.same, "x", "x"), (book.round_of, "a")):
                check_untouched(self, *asked)
            for told in (book.names(), book.crews(), book.members("x")):
                self.assertIs(type(told), list)
                self.assertEqual({type(name) for name in told}, {str})
                told.append("b")
            self.assertEqual((book.names(), book.crews(), book.members("x")), (["a"], ["x"], ["a"]))
            told = book.members("x")
            book.tell("b", [])
            book.enlist("x", "b")
            self.assertEqual(told, ["a"])


if __name__ == "__main__":
    unittest.main()
