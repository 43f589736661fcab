"""Workings: lists of lines, each a round that is made of members and of lines ahead."""

from duskround.errors import BadLine, TooLong
from duskround.rounds import joined, repeated, still

LONGEST_SPELLING = 2000


def picked(things, at):
    """The thing of that number, counted from 0."""
    # A number below 0 would count from behind.
    if at < 0 or at >= len(things):
        raise BadLine(f"there is no number {at} here")
    return things[at]


def line_round(p, members, ahead, line):
    """The round of a line, given the members and the rounds of the lines ahead."""
    word = line[0]
    if word == "rest":
        return still()
    if word == "member":
        return picked(members, line[1])
    if word == "join":
        return joined(p, picked(ahead, line[1]), picked(ahead, line[2]))
    if word == "times":
        return repeated(p, picked(ahead, line[1]), line[2])
    raise BadLine(f"no line is called {word}")


def worked(p, members, lines):
    """The list of the rounds of a working's lines."""
    ahead = []
    for line in lines:
        ahead.append(line_round(p, members, ahead, line))
    return ahead


def lengths(lines):
    """How many things each line has when it is spelled out; what is too long counts as one too many."""
    found = []
    for line in lines:
        word = line[0]
        many = 0
        if word == "member":
            many = 1
        elif word == "join":
            many = found[line[1]] + found[line[2]]
        elif word == "times":
            many = found[line[1]] * abs(line[2])
        # Lines that double again and again would give numbers without measure.
        found.append(min(many, LONGEST_SPELLING + 1))
    return found


def needed(lines, many):
    """The numbers of the lines that the last line is spelled out of, rising; empty ones are left out."""
    wanted = {len(lines) - 1: True}
    for at in range(len(lines) - 1, -1, -1):
        word = lines[at][0]
        if at not in wanted or many[at] == 0:
            continue
        if word == "join" or word == "times":
            wanted[lines[at][1]] = True
        if word == "join":
            wanted[lines[at][2]] = True
    return [at for at in sorted(wanted) if many[at] > 0]


def several(row, n):
    """A row n times, below nought turned about with each way turned."""
    if n < 0:
        return [(k, -forth) for k, forth in row[::-1]] * -n
    return row * n


def spelled(lines):
    """The last line of a working spelled out: tuples (k, way) of its members, one behind the other."""
    if not lines:
        return []
    many = lengths(lines)
    if many[-1] > LONGEST_SPELLING:
        raise TooLong(f"the line has more than {LONGEST_SPELLING} members when it is spelled out")
    # Only what goes into the last line is spelled out: other lines may be as long as they like.
    rows = {}
    for at in needed(lines, many):
        line = lines[at]
        if line[0] == "member":
            rows[at] = [(line[1], 1)]
        elif line[0] == "join":
            rows[at] = rows.get(line[1], []) + rows.get(line[2], [])
        else:
            rows[at] = several(rows[line[1]], line[2])
    return rows.get(len(lines) - 1, [])
