"""Several REQUIREMENTs together.

The package reckons with a row of REQUIREMENTs as a list of the readings of
each one.
"""

from pickedrelease.errors import BadQuestion
from pickedrelease.requirements import need_readings
from pickedrelease.spans import common, gaps_of, is_let_in, ranges_of
from pickedrelease.versions import need_place

MOST_REQUIREMENTS = 12


def need_row(thing):
    """The row of a thing, if it is a tuple of at most 12 REQUIREMENTs."""
    if not isinstance(thing, tuple) or len(thing) > MOST_REQUIREMENTS:
        raise BadQuestion("no tuple of at most 12 requirements")
    return [need_readings(item) for item in thing]


def together(many):
    """The ranges of what is in each of many tuples of ranges."""
    ranges = gaps_of(())
    for one in many:
        ranges = common(ranges, one)
    return ranges


def core_of(row):
    """The numbers of a CORE of a row, or None if this is open."""
    many = [ranges_of(readings) for readings in row]
    if together(many) != ():
        return None
    kept = list(range(len(many)))
    for at in range(len(many)):
        rest = [number for number in kept if number != at]
        if together([many[number] for number in rest]) == ():
            kept = rest
    return tuple(kept)


def barring(row, place):
    """The numbers of those of a row that do not let in the VERSION of a place."""
    return tuple([at for at, readings in enumerate(row)
                  if not all([is_let_in(place, reading) for reading in readings])])


def is_open(requirements):
    """Whether some REQUIREMENTs let in a VERSION together."""
    return together([ranges_of(readings) for readings in need_row(requirements)]) != ()


def core(requirements):
    """The numbers of a CORE of some REQUIREMENTs, or None if they are open."""
    return core_of(need_row(requirements))


def bars(requirements, version):
    """The numbers of those of some REQUIREMENTs that do not let a VERSION in."""
    row = need_row(requirements)
    return barring(row, need_place(version))
