"""Notes: rounds and books as texts, and texts read again."""

from duskround.book import Book, check_name
from duskround.errors import BadText, StreetError

FIGURES = "0123456789"


def shown(one):
    """A round as text."""
    end, pattern = one
    return f"{end}:" + "".join([f" {place}={setting}" for place, setting in pattern])


def number(text):
    """The number that a text writes."""
    figures = text[1:] if text.startswith("-") else text
    if not figures or any([sign not in FIGURES for sign in figures]):
        raise BadText("a number has figures alone, and perhaps a minus ahead")
    found = int(text)
    # Needless noughts, and a minus ahead of nought, are not written again.
    if str(found) != text:
        raise BadText("a number has no needless signs")
    return found


def lamp(p, text):
    """The pair (place, setting) that a text writes."""
    place, equals, setting = text.partition("=")
    pair = (number(place), number(setting))
    if not 1 <= pair[1] < p:
        raise BadText("a lit lamp has a setting from 1 to one less than there are")
    return pair


def read(p, text):
    """The round that a text writes."""
    end, *lamps = text.split(" ")
    if not end.endswith(":"):
        raise BadText("there is a colon behind the end")
    pattern = [lamp(p, told) for told in lamps]
    places = [place for place, setting in pattern]
    if any([place >= above for place, above in zip(places, places[1:])]):
        raise BadText("the places of a pattern rise")
    return (number(end[:-1]), tuple(pattern))


def book_text(book):
    """A book as text."""
    rows = [f"settings {book.settings()}"]
    rows.extend([f"round {name} {shown(book.round_of(name))}" for name in book.names()])
    rows.extend([" ".join(["crew", crew] + book.members(crew)) for crew in book.crews()])
    return "\n".join(rows)


def enter_round(book, words):
    """Enters the round of a row's words behind the first one."""
    name = words[0]
    check_name(name)
    book.put(name, read(book.settings(), " ".join(words[1:])))


def enter_crew(book, words):
    """Enters the crew of a row's words behind the first one."""
    crew = words[0]
    book.found(crew)
    for name in words[1:]:
        book.enlist(crew, name)


def enter(book, row):
    """Enters what a row writes."""
    word, *words = row.split(" ")
    if word == "round" and words:
        enter_round(book, words)
    elif word == "crew" and words:
        enter_crew(book, words)
    else:
        raise BadText("a row tells a round or a crew")


def entered(rows):
    """A book in which rows of text were entered one by one."""
    word, *words = rows[0].split(" ")
    if word != "settings" or len(words) != 1:
        raise BadText("the first row tells the settings")
    book = Book(number(words[0]))
    for row in rows[1:]:
        enter(book, row)
    return book


def read_book(text):
    """A new book with the rounds and crews that a text writes."""
    try:
        book = entered(text.split("\n"))
    except StreetError:
        raise BadText("no book can hold that") from None
    # Rows out of order, or told twice, are entered too: only the text as it would be written shows them.
    if book_text(book) != text:
        raise BadText("a book is written otherwise")
    book.begin_here()
    return book
