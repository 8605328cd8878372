"""A PROJECT: a LIST of RELEASEs of one package, and wants.

The LIST and the wants of a Project are never changed where they are, only
replaced, so that what they were can be kept and put back.
"""

from pickedrelease.alike import parting
from pickedrelease.errors import BadQuestion, Missing
from pickedrelease.later import breaker_in
from pickedrelease.picking import MOST_RELEASES, need_entries, need_releases, pick_by, rule_of
from pickedrelease.requirements import need_readings, need_requirement
from pickedrelease.rows import barring, core_of
from pickedrelease.versions import need_place

MOST_WANTS = 12
LONGEST_NAME = 8


def is_name(thing):
    """Whether a thing is the name of a want."""
    if not isinstance(thing, str) or len(thing) > LONGEST_NAME:
        return False
    return thing.isascii() and thing.isalpha() and thing.islower()


def index_of(place, releases):
    """Where the VERSION of a place stands in a LIST, or None."""
    places = [entry[0] for entry in need_entries(releases)]
    return places.index(place) if place in places else None


def row_of(wanted):
    """The readings of each want, by ascending names."""
    return [need_readings(wanted[name]) for name in sorted(wanted)]


def rule_together(row):
    """The rule of all of a row of readings, as one REQUIREMENT."""
    return rule_of([reading for readings in row for reading in readings])


class Trial:
    """What a Project is when a with statement begins, put back when this ends."""

    def __init__(self, project):
        self.project = project

    def __enter__(self):
        self.listed = self.project.listed
        self.wanted = self.project.wanted
        # Deeds and undoing change the list that the Project has.
        self.past = list(self.project.past)
        return self.project

    def __exit__(self, kind, value, trace):
        self.project.listed = self.listed
        self.project.wanted = self.wanted
        self.project.past = self.past


class Project:
    """A LIST, listed; wants by their names, wanted; and what these two were ahead of each deed, past."""

    def __init__(self, releases=()):
        self.listed = need_releases(releases)
        self.wanted = {}
        self.past = []

    def __eq__(self, other):
        return isinstance(other, Project) and self.listed == other.listed and self.wanted == other.wanted

    def put(self, listed, wanted):
        """Put a LIST and wants in the place of those that are there, as one deed."""
        self.past.append((self.listed, self.wanted))
        self.listed = listed
        self.wanted = wanted

    def release(self, version):
        """Put a further RELEASE in."""
        if index_of(need_place(version), self.listed) is not None:
            raise BadQuestion("this version is released")
        if len(self.listed) == MOST_RELEASES:
            raise BadQuestion("too many releases")
        self.put(self.listed + ((version, False),), self.wanted)

    def withdraw(self, version):
        """Make a RELEASE WITHDRAWN."""
        at = index_of(need_place(version), self.listed)
        if at is None:
            raise Missing(version)
        text, withdrawn = self.listed[at]
        if withdrawn:
            raise BadQuestion("this version is withdrawn")
        self.put(self.listed[:at] + ((text, True),) + self.listed[at + 1:], self.wanted)

    def releases(self):
        """The LIST."""
        return self.listed

    def want(self, name, requirement):
        """Put a want in, in the place of one with this name."""
        if not is_name(name):
            raise BadQuestion("no name of a want")
        wanted = {**self.wanted, name: need_requirement(requirement)}
        if len(wanted) > MOST_WANTS:
            raise BadQuestion("too many wants")
        self.put(self.listed, wanted)

    def forget(self, name):
        """Take a want away."""
        self.requirement(name)
        self.put(self.listed, {other: self.wanted[other] for other in self.wanted if other != name})

    def requirement(self, name):
        """The REQUIREMENT of a want."""
        if not is_name(name) or name not in self.wanted:
            raise Missing(name)
        return self.wanted[name]

    def names(self):
        """The names of the wants, ascending."""
        return tuple(sorted(self.wanted))

    def pick(self):
        """The PICK of all wants together, or None."""
        return pick_by(rule_together(row_of(self.wanted)), self.listed)

    def core(self):
        """The names of a CORE of the wants, or None if they are open."""
        numbers = core_of(row_of(self.wanted))
        return None if numbers is None else self.names_at(numbers)

    def barred(self, version):
        """The names of the wants that do not let a VERSION in."""
        return self.names_at(barring(row_of(self.wanted), need_place(version)))

    def names_at(self, numbers):
        """The names of some wants, by their numbers among the ascending names."""
        names = self.names()
        return tuple([names[at] for at in numbers])

    def lasts(self):
        """Whether the PICK, or None, LASTS."""
        return self.breaker() is None

    def breaker(self):
        """A BREAKER of the PICK, or None."""
        return breaker_in(need_entries(self.listed), rule_together(row_of(self.wanted)))

    def needless(self):
        """The names of the wants each of which can be left out alone."""
        row = row_of(self.wanted)
        rule = rule_together(row)
        return self.names_at([at for at in range(len(row))
                              if parting(rule, rule_together(row[:at] + row[at + 1:])) is None])

    def undo(self):
        """Take the last deed back, and tell whether there was one."""
        if not self.past:
            return False
        self.listed, self.wanted = self.past.pop()
        return True

    def trial(self):
        """An object for one with statement, behind which all is as it was ahead of it."""
        return Trial(self)


def under(manager, deed):
    """What a deed returns, called in a with statement over a manager with what this gives."""
    with manager as one:
        return deed(one)
