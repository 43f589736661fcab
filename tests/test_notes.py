"""Promises [22] and [23]: rounds and books as texts, and texts read again."""

import re
import unittest

from duskround import errors
from duskround.book import Book
from duskround.notes import book_text, read, read_book, shown
from helper import HUGE, SETTINGS, beyond, chance, check_refused, check_round, check_untouched, drawn

NUMBER = "(?:0|-?[1-9][0-9]*)"
ROUND = re.compile(f"({NUMBER}):((?: {NUMBER}={NUMBER})*)")
NAME = re.compile("[a-z]{1,12}")
SIGNS = "".join(chr(code) for code in range(32, 127)) + "\n"
# Those that stand in such texts, and those that could be taken for them, come more often.
LIKELY_SIGNS = "0123456789 -=:+_\nabcrowsetingdu"


def plain_round(p, text):
    """The round that a text writes, None where it writes none: by a pattern of signs, not by reading on."""
    found = ROUND.fullmatch(text)
    if not found:
        return None
    pairs = tuple(tuple(int(number) for number in lamp.split("=")) for lamp in found[2].split())
    places = [place for place, setting in pairs]
    if places != sorted(set(places)) or any(not 1 <= setting <= p - 1 for place, setting in pairs):
        return None
    return (int(found[1]), pairs)


def plain_book(text):
    """A tuple (p, rounds, crews) that a text writes, None where it is the text of no book."""
    found = re.fullmatch("settings ([2357])((?:\nround [a-z]{1,12} [^\n]*)*)((?:\ncrew [a-z ]+)*)", text)
    if not found:
        return None
    p = int(found[1])
    rounds = [row.split(" ", 2)[1:] for row in found[2].split("\n")[1:]]
    crews = [row.split(" ")[1:] for row in found[3].split("\n")[1:]]
    for rows in (rounds, crews):
        names = [row[0] for row in rows]
        if names != sorted(set(names)):
            return None
    rounds = {name: plain_round(p, told) for name, told in rounds}
    if any(one is None or beyond(one, 200, 200) for one in rounds.values()):
        return None
    for crew, *members in crews:
        if not NAME.fullmatch(crew) or len(members) > 6 or len(set(members)) < len(members):
            return None
        if any(name not in rounds or beyond(rounds[name], 8, 24) for name in members):
            return None
    return (p, rounds, {crew: members for crew, *members in crews})


def changed(source, text):
    """A text with a sign out, in, another or exchanged, or cut off; or with rows exchanged, twice or left out."""
    at = source.randint(0, len(text))
    sign = source.choice(source.choice((SIGNS, LIKELY_SIGNS)))
    rows = text.split("\n")
    i, j = source.randrange(len(rows)), source.randrange(len(rows))
    swapped = list(rows)
    swapped[i], swapped[j] = rows[j], rows[i]
    words = text.split(" ")
    k, m = source.randrange(len(words)), source.randrange(len(words))
    mixed = list(words)
    mixed[k], mixed[m] = words[m], words[k]
    return source.choice((
        text[:at] + text[at + 1:], text[:at] + sign + text[at:], text[:at] + sign + text[at + 1:],
        text[:at] + text[at + 1:at + 2] + text[at:at + 1] + text[at + 2:], text[:at], text[at:],
        "\n".join(swapped), "\n".join(rows[:i] + rows[i:i + 1] + rows[i:]), "\n".join(rows[:i] + rows[i + 1:]),
        "\n".join(rows[:i] + [rows[j]] + rows[i:]), " ".join(mixed), " ".join(words[:k] + words[k + 1:]),
        " ".join(words[:k] + words[k:k + 1] + words[k:]),
    ))


def some_book(source, p):
    """A book of some rounds and crews, with things done and undone and held."""
    book = Book(p)
    names = source.sample(["a", "b", "c", "aa", "ab", "zzzzzzzzzzzz", "lamp", "crew", "round"], source.randint(0, 7))
    for name in names:
        reach = source.choice((8, 24, 200))
        deeds = []
        for place, setting in drawn(source, p, reach, 4):
            deeds += [("go", place), ("turn", setting), ("go", -place)]
        book.tell(name, deeds + [("go", source.randint(-8, 8))])
    for crew in source.sample(["a", "x", "xy", "settings", "crew"], source.randint(0, 4)):
        book.found(crew)
        for name in source.sample(names, source.randint(0, len(names))):
            try:
                book.enlist(crew, name)
            except (errors.TooFar, errors.TooMany):
                continue
    book.hold()
    book.tell("gone", [("go", 1)])
    book.undo()
    return book


class TestRounds(unittest.TestCase):
    def check_read(self, p, text):
        """A text is read just where it writes a round."""
        wanted = plain_round(p, text)
        if wanted is None:
            check_refused(self, errors.BadText, read, p, text)
        else:
            told = check_untouched(self, read, p, text)
            check_round(self, p, told)
            self.assertEqual(told, wanted)
            self.assertEqual(shown(told), text)
        return wanted is not None

    def test_written_examples(self):
        for one, text in (
            ((3, ((-2, 1), (0, 2))), "3: -2=1 0=2"), ((0, ()), "0:"), ((-10, ()), "-10:"), ((0, ((0, 1),)), "0: 0=1"),
            ((-1, ((-20, 4), (10, 6))), "-1: -20=4 10=6"), ((100, ((7, 1),)), "100: 7=1"),
        ):
            self.assertEqual(shown(one), text)
            self.assertIs(type(shown(one)), str)
            self.assertEqual(read(7, text), one)

    def test_drawn_rounds(self):
        source = chance(801)
        for p in SETTINGS:
            for at in range(150):
                one = (source.randint(-300, 300), drawn(source, p, source.choice((3, 20, 400)), 12))
                self.assertTrue(self.check_read(p, check_untouched(self, shown, one)))
                self.assertEqual(read(p, shown(one)), one)

    def test_texts_that_were_changed(self):
        source = chance(802)
        found = {True: 0, False: 0}
        for p in SETTINGS:
            for at in range(1200):
                one = (source.randint(-12, 12), drawn(source, p, source.choice((3, 20)), 3))
                text = changed(source, shown(one))
                if source.random() < 0.3:
                    text = changed(source, text)
                found[self.check_read(p, text)] += 1
        self.assertGreater(min(found.values()), 500)

    def test_settings_for_each_p(self):
        for p in SETTINGS:
            for setting in range(-1, 12):
                self.assertIs(self.check_read(p, f"0: 0={setting}"), 1 <= setting <= p - 1)
                self.assertIs(self.check_read(p, f"0: 0={setting}0"), False)

    def test_places_rise(self):
        for p in SETTINGS:
            for first in range(-12, 13):
                for second in range(-12, 13):
                    self.assertIs(self.check_read(p, f"0: {first}=1 {second}=1"), first < second)
            self.assertFalse(self.check_read(p, "0: 1=1 2=1 2=1"))
            self.assertFalse(self.check_read(p, "0: 1=1 0=1 2=1"))

    def test_numbers(self):
        for p in SETTINGS:
            good = ("0", "1", "-1", "10", "-10", "9" * 30, "9" * 60, "-" + "9" * 60, "1" + "0" * 59, str(HUGE))
            bad = (
                "", "-", "-0", "00", "01", "-01", "+1", "+0", "--1", "1-", "1.0", "1e3", "0x1", "1_0", " 1", "1 ", "a",
                "1" + "0" * 58 + "a", "0" + "9" * 59, "-0" + "9" * 58, "0" * 60, "1\n", "\n1", "1:", "=1", "None", "\t1",
            )
            for number in good + bad:
                for text in (f"{number}:", f"0: {number}=1", f"{number}: -5=1"):
                    self.assertIs(self.check_read(p, text), number in good, text)
                self.assertIs(self.check_read(p, f"0: 0={number}"), number == "1")

    def test_other_texts(self):
        for p in SETTINGS:
            for text in (
                "", " ", ":", "0", "0 ", "0: ", "0:  ", " 0:", "0 :", "0:0=1", "0:\n", "\n0:", "0: 0=1 ", "0:  0=1",
                "0: 0=1  1=1", "0: 0 =1", "0: 0= 1", "0: 0==1", "0: =1", "0: 0=", "0: =", "0: 0", "0: 0=1=1", "0: 0:1",
                "0: 0=1,1=1", "0: 0=1\n1=1", "0::", "0: 0=1:", "(0, ())", "settings 2", "round a 0:", "0:" + " " * 400,
            ):
                self.assertIs(self.check_read(p, text), False, text)

    def test_a_long_text(self):
        for p in SETTINGS:
            one = (HUGE, tuple((place, 1) for place in range(-1000, 1000)))
            self.assertEqual(read(p, shown(one)), one)
            check_refused(self, errors.BadText, read, p, shown(one) + " 999=1")


class TestBookTexts(unittest.TestCase):
    def all_of(self, book):
        rounds = {name: book.round_of(name) for name in book.names()}
        return (book.settings(), rounds, {crew: book.members(crew) for crew in book.crews()})

    def check_read(self, text):
        """A text is read just where it is, sign by sign, the text of some book."""
        wanted = plain_book(text)
        if wanted is None:
            check_refused(self, errors.BadText, read_book, text)
            return False
        book = read_book(text)
        self.assertIsInstance(book, Book)
        self.assertEqual(self.all_of(book), wanted)
        self.assertEqual(book_text(book), text)
        check_refused(self, errors.NoMore, book.undo)
        check_refused(self, errors.NoMore, book.redo)
        check_refused(self, errors.NoState, book.return_to, 0)
        self.assertEqual(book.hold(), 0)
        return True

    def test_written_examples(self):
        for p in SETTINGS:
            book = Book(p)
            self.assertEqual(book_text(book), f"settings {p}")
            book.found("night")
            self.assertEqual(book_text(book), f"settings {p}\ncrew night")
            book.tell("b", [("go", 3), ("turn", 1)])
            book.tell("aa", [])
            book.tell("a", [("go", -2), ("turn", -1), ("go", 1)])
            book.enlist("night", "b")
            book.enlist("night", "a")
            book.found("day")
            rows = [f"settings {p}", f"round a -1: -2={p - 1}", "round aa 0:", "round b 3: 3=1", "crew day",
                    "crew night b a"]
            self.assertEqual(check_untouched(self, lambda: book_text(book)), "\n".join(rows))
            self.assertIs(type(book_text(book)), str)
            self.assertTrue(self.check_read(book_text(book)))

    def test_drawn_books(self):
        source = chance(811)
        for p in SETTINGS:
            for at in range(80):
                book = some_book(source, p)
                text = book_text(book)
                self.assertTrue(self.check_read(text))
                again = read_book(text)
                self.assertEqual(self.all_of(again), self.all_of(book))
                for crew in book.crews():
                    self.assertEqual(again.form(crew), book.form(crew))

    def test_texts_that_were_changed(self):
        source = chance(812)
        found = {True: 0, False: 0}
        for p in SETTINGS:
            for at in range(1500):
                text = changed(source, book_text(some_book(source, p)))
                if source.random() < 0.2:
                    text = changed(source, text)
                found[self.check_read(text)] += 1
        self.assertGreater(min(found.values()), 500)

    def test_the_first_row(self):
        for text in ("", " ", "\n", "settings", "settings ", "settings  2", " settings 2", "settings 2 ", "settings 2\n",
                     "\nsettings 2", "settings 02", "settings +2", "settings -2", "settings 2 3", "Settings 2",
                     "setting 2", "settings 4", "settings 0", "settings 1", "settings 9", "settings 11", "settings 27",
                     "settings two", "settings\n2", "settings 2\nsettings 2", "settings 2\n\nround a 0:", "round a 0:",
                     "crew a", "settings " + "7" * 60, "settings 2\nsettings 3"):
            self.assertFalse(self.check_read(text), text)
        for p in SETTINGS:
            self.assertTrue(self.check_read(f"settings {p}"))

    def test_rows_of_rounds(self):
        for p in SETTINGS:
            head = f"settings {p}\n"
            good = ("round a 0:", "round a 200: -200=1 200=1", "round zzzzzzzzzzzz -200:", "round a 0:\nround aa 0:",
                    "round round 0:", "round crew 0:")
            bad = ("round", "round ", "round a", "round a ", "round  0:", "round 0:", "round a 0", "round a  0:",
                   "round a 0: ", "round A 0:", "round a1 0:", "round abcdefghijklm 0:", "round a 201:", "round a -201:",
                   "round a 0: 201=1", "round a 0: -201=1", f"round a 0: 0={p}", "round a 0: 0=0", "round a 0: 1=1 0=1",
                   "round a 00:", "round a -0:", "Round a 0:", "rounds a 0:", " round a 0:", "round a 0:\n",
                   "round a 0:\nround a 0:", "round b 0:\nround a 0:", "round aa 0:\nround a 0:", "round a b 0:", "a 0:")
            for rows in good:
                self.assertTrue(self.check_read(head + rows), rows)
            for rows in bad:
                self.assertFalse(self.check_read(head + rows), rows)

    def test_rows_of_crews(self):
        rounds = [f"round {name} 8: -24=1 24=1" for name in "abcdefg"] + ["round v 9:", "round x 0: 25=1"]
        for p in SETTINGS:
            head = "\n".join([f"settings {p}"] + rounds) + "\n"
            good = ("crew x", "crew a a", "crew a b a", "crew a a b c d e f", "crew a a\ncrew b a", "crew crew",
                    "crew zzzzzzzzzzzz g", "crew a f e d c b a", "crew round a\ncrew settings b")
            bad = ("crew", "crew ", "crew a ", "crew  a", "crew a  a", "crew a a ", " crew a", "crew A", "crew a1",
                   "crew abcdefghijklm", "crew a a a", "crew a b a b", "crew a h", "crew a a b c d e f g", "crew a v",
                   "crew a x", "crew a A", "crew a\ncrew a", "crew b\ncrew a", "crew aa\ncrew a", "crew a\n", "crews a",
                   "crew a\nround h 0:", "crew a\nround z 0:", "crew a a\n\ncrew b a", "crew a, a", "crew a: a")
            for rows in good:
                self.assertTrue(self.check_read(head + rows), rows)
            for rows in bad:
                self.assertFalse(self.check_read(head + rows), rows)

    def test_the_greatest_books(self):
        names = [first + second + third for first in "abcdefghij" for second in "abcdefghij" for third in "abcdefghi"]
        for p in SETTINGS:
            text = "\n".join([f"settings {p}"] + [f"round {name} 0: 0=1" for name in names])
            self.assertTrue(self.check_read(text))
            text = "\n".join([f"settings {p}", "round a 1:"] + [f"crew {name} a" for name in names])
            self.assertTrue(self.check_read(text))
            full = " ".join(f"{place}=1" for place in range(-200, 201))
            text = "\n".join([f"settings {p}"] + [f"round {name} 200: {full}" for name in "abcde"])
            self.assertTrue(self.check_read(text))

    def test_a_book_that_was_read_goes_on(self):
        for p in SETTINGS:
            text = f"settings {p}\nround a 1:\ncrew x a"
            book, other = read_book(text), read_book(text)
            book.tell("a", [("go", 2)])
            self.assertEqual(book.form("x"), (2, (2, ()), ()))
            book.undo()
            self.assertEqual(book_text(book), text)
            check_refused(self, errors.NoMore, book.undo)
            book.redo()
            self.assertEqual(book.round_of("a"), (2, ()))
            check_refused(self, errors.TooFar, book.tell, "a", [("go", 9)])
            check_refused(self, errors.InUse, book.drop, "a")
            self.assertEqual(book_text(other), text)
            check_refused(self, errors.NoMore, other.undo)


if __name__ == "__main__":
    unittest.main()
