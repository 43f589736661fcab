"""Crews: the rounds that come of joining a few members and their ways back, and the rooms they part all rounds into."""

from duskround.errors import Counted, Endless, TooFar, TooMany
from duskround.least import walked
from duskround.rounds import joined, lies_within, repeated, still
from duskround.stairs import built, measured, rest_of, taken
from duskround.works import Draft

MOST_MEMBERS = 6
FARTHEST_END = 8
FARTHEST_PLACE = 24
MOST_ROOMS = 300


def fits_crew(one):
    """True where a round may be a member, else False."""
    return lies_within(one, FARTHEST_END, FARTHEST_PLACE)


def check_members(members):
    """Refuses a row of rounds that is no crew."""
    if len(members) > MOST_MEMBERS:
        raise TooMany(f"a crew has at most {MOST_MEMBERS} members")
    for one in members:
        if not fits_crew(one):
            raise TooFar(f"a member ends within {FARTHEST_END} and is lit within {FARTHEST_PLACE} of 0")


def greatest_divisor(ends):
    """The greatest whole number that divides all ends, 0 where all are 0."""
    greatest = 0
    for end in ends:
        left = abs(end)
        while left:
            greatest, left = left, greatest % left
    return greatest


def row_to(ends, stride):
    """A shortest row of members (k, way) that ends at the stride."""
    # Ways on and back can be mixed so that no end on the way lies beyond the farthest one: there are few to try.
    rows = {0: []}
    edge = [0]
    while stride not in rows:
        reached = []
        for here in edge:
            for k, end in enumerate(ends):
                for way in (1, -1):
                    there = here + end * way
                    if there not in rows and abs(there) <= FARTHEST_END:
                        rows[there] = rows[here] + [(k, way)]
                        reached.append(there)
        edge = reached
    return rows[stride]


def gone_row(p, members, row):
    """The round of a row of members (k, way)."""
    now = still()
    for k, way in row:
        now = joined(p, now, repeated(p, members[k], way))
    return now


def filled(p, places):
    """All patterns that are lit at some rising places only."""
    found = [()]
    for place in places:
        found = [pattern + turned for pattern in found for turned in lamp_turns(p, place)]
    return found


def lamp_turns(p, place):
    """All patterns of one lamp."""
    return [()] + [((place, setting),) for setting in range(1, p)]


class Crew:
    """A crew: its members' rounds, and the form to which they come.

    The lap is some round that the crew makes and that ends at the stride, the head the one of them that lies low. The
    makers say how the stairs are made of the members, each brought to end 0 by laps back; the surplus says by which
    copies of stairs the lap is more than the head.
    """

    def __init__(self, p, members):
        check_members(members)
        self.p = p
        self.rounds = tuple(members)
        ends = [end for end, pattern in members]
        self.stride = greatest_divisor(ends)
        self.way = row_to(ends, self.stride)
        lap = gone_row(p, members, self.way)
        stairs, makers = built(p, self.stride, [self.level(lap, one)[1] for one in members])
        self.stairs = stairs
        self.makers = makers
        rest, surplus = taken(p, self.stride, stairs, lap[1])
        self.head = (self.stride, rest)
        self.surplus = surplus

    def form(self):
        """The form: stride, head and stairs."""
        return (self.stride, self.head, self.stairs)

    def laps(self, end):
        """How many strides an end holds."""
        return end // self.stride if self.stride else 0

    def level(self, lap, one):
        """A round with as many laps back behind it as its end holds."""
        return joined(self.p, one, repeated(self.p, lap, -self.laps(one[0])))

    def papers(self):
        """A tuple (lines, at, ats): a working, the number of the head's line, and those of the stairs' lines."""
        draft = Draft([])
        lap = draft.row(self.way)
        levels = []
        for k, one in enumerate(self.rounds):
            levels.append(draft.both(draft.write(("member", k)), draft.often(lap, -self.laps(one[0]))))
        ats = []
        for maker in self.makers:
            things = [(shift, draft.often(levels[which], setting)) for which, shift, setting in maker]
            ats.append(draft.chain(lap, things, 0))
        surplus = [(shift, draft.often(ats[which], -setting)) for which, shift, setting in self.surplus]
        at = draft.standing(draft.chain(lap, surplus, self.laps(self.stride)))
        return (draft.lines, at, ats)

    def room(self, one):
        """The round told for the room of a round."""
        end, pattern = joined(self.p, repeated(self.p, self.head, -self.laps(one[0])), one)
        return (end, rest_of(self.p, self.stride, self.stairs, pattern))

    def made(self, one):
        """None where the crew doesn't make a round; else a working whose last line is that round."""
        end, pattern = self.level(self.head, one)
        rest, parts = taken(self.p, self.stride, self.stairs, pattern)
        if end != 0 or rest:
            return None
        lines, at, ats = self.papers()
        draft = Draft(lines)
        things = [(shift, draft.often(ats[which], setting)) for which, shift, setting in parts]
        return draft.only(draft.standing(draft.chain(at, things, self.laps(one[0]))))

    def rooms(self):
        """The number of rooms, None where they are without end."""
        if self.stride == 0 or len(self.stairs) < self.stride:
            return None
        many = self.stride
        for place in self.low_places():
            many *= self.p
        return many

    def low_places(self):
        """The places in the stairs' first columns at which a pattern that lies low may be lit, rising."""
        places = []
        for stair in self.stairs:
            first, length = measured(self.stride, stair)
            places.extend([first + self.stride * height for height in range(length)])
        return sorted(places)

    def all_rooms(self):
        """The list of the rounds told for all rooms, rising."""
        many = self.rooms()
        if many is None:
            raise Endless("the rooms are without end")
        if many > MOST_ROOMS:
            raise TooMany(f"there are more than {MOST_ROOMS} rooms")
        patterns = filled(self.p, self.low_places())
        return sorted([(end, pattern) for end in range(self.stride) for pattern in patterns])

    def table(self):
        """For each room the numbers of the rooms to which the single deeds on and up lead."""
        told = self.all_rooms()
        numbers = {one: at for at, one in enumerate(told)}
        on, up = walked(self.p, ["on"]), walked(self.p, ["up"])
        return [
            (numbers[self.room(joined(self.p, one, on))], numbers[self.room(joined(self.p, one, up))])
            for one in told
        ]

    def far_room(self, k):
        """A round for each k; those for unlike k are in unlike rooms."""
        if self.rooms() is not None:
            raise Counted("the rooms are not without end")
        if self.stride == 0:
            # Rooms keep their ends.
            return (k, ())
        # What is lit only in a column where no stair begins lies low: it is told for its own room.
        firsts = [measured(self.stride, stair)[0] for stair in self.stairs]
        free = min([column for column in range(self.stride) if column not in firsts])
        return (0, ((free + self.stride * k, 1),))


def unmade(one, other):
    """The members' rounds of the first crew that the second doesn't make."""
    return [member for member in one.rounds if other.room(member) != still()]


def within(one, other):
    """True where the second crew makes every round that the first makes, else False."""
    return not unmade(one, other)


def apart(one, other):
    """None where two crews make the same rounds; else which of them makes a round that the other doesn't, and that."""
    for which, rounds in (("first", unmade(one, other)), ("second", unmade(other, one))):
        if rounds:
            return (which, rounds[0])
    return None
