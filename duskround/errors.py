"""The refusals: each stands straight under StreetError."""


class StreetError(ValueError):
    """Any refusal."""


class NoDeed(StreetError):
    """A deed has a word that names none."""


class TooLong(StreetError):
    """A row would have more things than may be told."""


class NoughtDivisor(StreetError):
    """A sum was to be parted by the nought."""


class BadLine(StreetError):
    """A line of a working has an unknown word, or names a member or a line that isn't there."""


class TooFar(StreetError):
    """A round ends or is lit beyond its bounds."""


class TooMany(StreetError):
    """There are more members or rooms than may be."""


class Endless(StreetError):
    """The rooms are without end."""


class Counted(StreetError):
    """The rooms are not without end."""


class BadCount(StreetError):
    """Lamps can't have so many settings."""


class BadName(StreetError):
    """A text is no name."""


class NoRound(StreetError):
    """There is no round of that name."""


class NoCrew(StreetError):
    """There is no crew of that name."""


class Taken(StreetError):
    """A name has its place already."""


class InUse(StreetError):
    """A round is still a member of a crew."""


class NoMore(StreetError):
    """Nothing is left to undo, or to do again."""


class NoState(StreetError):
    """Nothing is held under that number."""


class BadText(StreetError):
    """A text writes no round, or no book."""
