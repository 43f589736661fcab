"""Books: rounds and crews by name, and all that was done to them."""

from duskround.crews import MOST_MEMBERS, Crew, fits_crew
from duskround.errors import BadCount, BadName, InUse, NoCrew, NoMore, NoRound, NoState, Taken, TooFar, TooMany
from duskround.rounds import backward, gone, joined, lies_within, repeated

COUNTS = (2, 3, 5, 7)
LETTERS = "abcdefghijklmnopqrstuvwxyz"
LONGEST_NAME = 12
FARTHEST = 200


def check_name(name):
    """Refuses a text that is no name."""
    if not 1 <= len(name) <= LONGEST_NAME or any([sign not in LETTERS for sign in name]):
        raise BadName(f"a name has one to {LONGEST_NAME} small letters")


def with_thing(things, name, thing):
    """A copy of things by name, with one more or another one."""
    changed = dict(things)
    changed[name] = thing
    return changed


def without(things, name):
    """A copy of things by name, with one less."""
    changed = dict(things)
    del changed[name]
    return changed


class Page:
    """What stands in a book at one moment; it is never changed, so that it can be held and come back to.

    Rounds are told by name, teams are the tuples of members' names by the crew's name.
    """

    def __init__(self, rounds, teams):
        self.rounds = rounds
        self.teams = teams


class Book:
    """A book of rounds and crews."""

    def __init__(self, p):
        if p not in COUNTS:
            raise BadCount("a lamp has 2, 3, 5 or 7 settings")
        self.p = p
        self.now = Page({}, {})
        self.past = []
        self.undone = []
        self.held = []

    def settings(self):
        """How many settings each lamp has."""
        return self.p

    def turn_to(self, page):
        """Does a deed: from now on another page stands."""
        self.past.append(self.now)
        self.undone = []
        self.now = page

    def put(self, name, one):
        """Gives a good name a round."""
        if not lies_within(one, FARTHEST, FARTHEST):
            raise TooFar(f"a round ends and is lit within {FARTHEST} of 0")
        if self.enlisted(name) and not fits_crew(one):
            raise TooFar("the round lies too far for the crews of which it is a member")
        self.turn_to(Page(with_thing(self.now.rounds, name, one), self.now.teams))

    def put_team(self, crew, team):
        """Gives a crew its members' names."""
        self.turn_to(Page(self.now.rounds, with_thing(self.now.teams, crew, team)))

    def enlisted(self, name):
        """True where a name is a member of some crew, else False."""
        return any([name in team for team in self.now.teams.values()])

    def team(self, crew):
        """The tuple of a crew's members' names."""
        if crew not in self.now.teams:
            raise NoCrew(f"there is no crew {crew}")
        return self.now.teams[crew]

    def tell(self, name, deeds):
        """Gives a name the round that deeds write."""
        check_name(name)
        self.put(name, gone(self.p, deeds))

    def join_as(self, name, one, other):
        """Gives a name the round of two named ones joined."""
        check_name(name)
        self.put(name, joined(self.p, self.round_of(one), self.round_of(other)))

    def back_as(self, name, one):
        """Gives a name the way back of a named round."""
        check_name(name)
        self.put(name, backward(self.p, self.round_of(one)))

    def times_as(self, name, one, n):
        """Gives a name the round of a named one n times."""
        check_name(name)
        self.put(name, repeated(self.p, self.round_of(one), n))

    def drop(self, name):
        """Takes a round away."""
        # Asked for its refusal alone.
        self.round_of(name)
        if self.enlisted(name):
            raise InUse(f"{name} is a member of a crew")
        self.turn_to(Page(without(self.now.rounds, name), self.now.teams))

    def found(self, crew):
        """Makes a new crew without members."""
        check_name(crew)
        if crew in self.now.teams:
            raise Taken(f"there is a crew {crew}")
        self.put_team(crew, ())

    def disband(self, crew):
        """Takes a crew away."""
        # Asked for its refusal alone.
        self.team(crew)
        self.turn_to(Page(self.now.rounds, without(self.now.teams, crew)))

    def enlist(self, crew, name):
        """Makes a round a crew's last member."""
        team = self.team(crew)
        one = self.round_of(name)
        if name in team:
            raise Taken(f"{name} is a member of {crew}")
        if len(team) >= MOST_MEMBERS:
            raise TooMany(f"a crew has at most {MOST_MEMBERS} members")
        if not fits_crew(one):
            raise TooFar(f"{name} lies too far for a crew")
        self.put_team(crew, team + (name,))

    def dismiss(self, crew, name):
        """Takes a member out of a crew."""
        team = self.team(crew)
        if name not in team:
            raise NoRound(f"{name} is no member of {crew}")
        self.put_team(crew, tuple([member for member in team if member != name]))

    def undo(self):
        """Undoes the last deed that stands."""
        if not self.past:
            raise NoMore("there is nothing to undo")
        self.undone.append(self.now)
        self.now = self.past.pop()

    def redo(self):
        """Does again the deed that was undone last."""
        if not self.undone:
            raise NoMore("there is nothing to do again")
        self.past.append(self.now)
        self.now = self.undone.pop()

    def hold(self):
        """Holds what stands; the number under which it is held."""
        self.held.append(self.now)
        return len(self.held) - 1

    def return_to(self, k):
        """Brings back what is held under a number."""
        if not 0 <= k < len(self.held):
            raise NoState(f"nothing is held under {k}")
        self.turn_to(self.held[k])

    def begin_here(self):
        """Forgets all deeds: what stands now is how the book began."""
        self.past = []
        self.undone = []
        self.held = []

    def names(self):
        """The names of the rounds, rising."""
        return sorted(self.now.rounds)

    def crews(self):
        """The names of the crews, rising."""
        return sorted(self.now.teams)

    def round_of(self, name):
        """The round of a name."""
        if name not in self.now.rounds:
            raise NoRound(f"there is no round {name}")
        return self.now.rounds[name]

    def members(self, crew):
        """The names of a crew's members, in their order."""
        return list(self.team(crew))

    def crew_of(self, crew):
        """The crew of the rounds that the members' names have now."""
        return Crew(self.p, [self.now.rounds[name] for name in self.team(crew)])

    def form(self, crew):
        """The form of a crew."""
        return self.crew_of(crew).form()

    def rooms(self, crew):
        """The number of a crew's rooms, None where they are without end."""
        return self.crew_of(crew).rooms()

    def room(self, crew, name):
        """The round told for the room of a named round."""
        asked = self.crew_of(crew)
        return asked.room(self.round_of(name))

    def made(self, crew, name):
        """None where a crew doesn't make a named round; else a working whose last line is that round."""
        asked = self.crew_of(crew)
        return asked.made(self.round_of(name))

    def same(self, crew, other):
        """True where two crews make the same rounds, else False."""
        return self.form(crew) == self.form(other)
