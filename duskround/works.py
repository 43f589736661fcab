"""Workings: lists of lines, each a round that is made of members and of lines ahead."""

from duskround.errors import BadLine, TooLong
from duskround.rounds import joined, repeated, still

LONGEST_SPELLING = 2000


def picked(things, at):
    """The thing of that number, counted from 0."""
    # A number below 0 would count from behind.
    if at < 0 or at >= len(things):
        raise BadLine(f"there is no number {at} here")
    return things[at]


def line_round(p, members, ahead, line):
    """The round of a line, given the members and the rounds of the lines ahead."""
    word = line[0]
    if word == "rest":
        return still()
    if word == "member":
        return picked(members, line[1])
    if word == "join":
        return joined(p, picked(ahead, line[1]), picked(ahead, line[2]))
    if word == "times":
        return repeated(p, picked(ahead, line[1]), line[2])
    raise BadLine(f"no line is called {word}")


def worked(p, members, lines):
    """The list of the rounds of a working's lines."""
    ahead = []
    for line in lines:
        ahead.append(line_round(p, members, ahead, line))
    return ahead


def lengths(lines):
    """How many things each line has when it is spelled out; what is too long counts as one too many."""
    found = []
    for line in lines:
        word = line[0]
        many = 0
        if word == "member":
            many = 1
        elif word == "join":
            many = found[line[1]] + found[line[2]]
        elif word == "times":
            many = found[line[1]] * abs(line[2])
        # Lines that double again and again would give numbers without measure.
        found.append(min(many, LONGEST_SPELLING + 1))
    return found


def named(line):
    """The numbers of the lines that a line names."""
    if line[0] == "join":
        return [line[1], line[2]]
    if line[0] == "times":
        return [line[1]]
    return []


def needed(lines, last, many):
    """The numbers of the lines that a line is spelled out of, its own too, rising; empty ones are left out."""
    wanted = {last: True}
    for at in range(last, -1, -1):
        if at in wanted and many[at] > 0:
            for ahead in named(lines[at]):
                wanted[ahead] = True
    return [at for at in sorted(wanted) if many[at] > 0]


def several(row, n):
    """A row n times, below nought turned about with each way turned."""
    if n < 0:
        return [(k, -forth) for k, forth in row[::-1]] * -n
    return row * n


def spelled(lines):
    """The last line of a working spelled out: tuples (k, way) of its members, one behind the other."""
    if not lines:
        return []
    many = lengths(lines)
    if many[-1] > LONGEST_SPELLING:
        raise TooLong(f"the line has more than {LONGEST_SPELLING} members when it is spelled out")
    # Only what goes into the last line is spelled out: other lines may be as long as they like.
    rows = {}
    for at in needed(lines, len(lines) - 1, many):
        line = lines[at]
        if line[0] == "member":
            rows[at] = [(line[1], 1)]
        elif line[0] == "join":
            rows[at] = rows.get(line[1], []) + rows.get(line[2], [])
        else:
            rows[at] = several(rows[line[1]], line[2])
    return rows.get(len(lines) - 1, [])


class Draft:
    """A working in the making, in which no line is written twice; None stands for a round that does nothing."""

    def __init__(self, lines):
        self.lines = list(lines)
        self.numbers = {line: at for at, line in enumerate(lines)}

    def write(self, line):
        """The number of a line, which is written where it isn't there."""
        if line not in self.numbers:
            self.numbers[line] = len(self.lines)
            self.lines.append(line)
        return self.numbers[line]

    def both(self, one, other):
        """The number of the line that joins two."""
        if one is None:
            return other
        if other is None:
            return one
        return self.write(("join", one, other))

    def often(self, at, n):
        """The number of the line that is another one n times."""
        if n == 0 or at is None:
            return None
        if n == 1:
            return at
        return self.write(("times", at, n))

    def row(self, ways):
        """The number of the line of a spelled row (k, way)."""
        now = None
        for k, forth in ways:
            now = self.both(now, self.often(self.write(("member", k)), forth))
        return now

    def chain(self, lap, things, stop):
        """The number of the line of things (shift, at), each seen from so many laps, and of `stop` laps behind them."""
        # Laps back behind one thing and laps on ahead of the next come to a few: no thing is moved by itself.
        now = None
        here = 0
        for shift, at in sorted(things) + [(stop, None)]:
            now = self.both(now, self.often(lap, shift - here))
            now = self.both(now, at)
            here = shift
        return now

    def standing(self, at):
        """The number of a line that is surely there."""
        if at is None:
            return self.write(("rest",))
        return at

    def only(self, last):
        """A working of those lines alone of which a line is made, with that line last."""
        places = {}
        told = []
        for at in needed(self.lines, last, [1] * len(self.lines)):
            line = self.lines[at]
            if line[0] == "join":
                line = ("join", places[line[1]], places[line[2]])
            elif line[0] == "times":
                line = ("times", places[line[1]], line[2])
            places[at] = len(told)
            told.append(line)
        return told
