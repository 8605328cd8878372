"""CLAUSEs and REQUIREMENTs: what they are, what they name and pin, their texts.

The package reckons with a CLAUSE as its reading, a tuple (sign, starred, parts):
its SIGN, whether its TEXT has a star, and the parts of its VERSION.
"""

from pickedrelease.errors import BadRequirement, BadText
from pickedrelease.versions import UNMARKED, place_of, place_text, read_version

MOST_CLAUSES = 12
SIGNS = ("==", "!=", "<=", ">=", "<", ">", "~=")
STAR = ".*"

MOST_CLAUSE_NUMBERS = 8
GREATEST_NUMBER = 1000000000


def takes(sign, starred, parts):
    """Whether a SIGN takes a VERSION with these parts, with or without a star."""
    if starred or sign == "<" or sign == ">":
        is_plain = parts[2] == UNMARKED and parts[4] < 0 and parts[5] < 0
        return is_plain and (not starred or sign == "==" or sign == "!=")
    return sign != "~=" or len(parts[1]) >= 2


def clause_reading(thing, most_numbers=MOST_CLAUSE_NUMBERS, greatest=GREATEST_NUMBER):
    """The reading of a CLAUSE within limits, those of what is passed, or None if a thing is none."""
    if not isinstance(thing, tuple) or len(thing) != 2:
        return None
    sign, text = thing
    if not isinstance(sign, str) or not isinstance(text, str) or sign not in SIGNS:
        return None
    starred = text.endswith(STAR)
    parts = read_version(text.removesuffix(STAR) if starred else text, most_numbers, greatest)
    return (sign, starred, parts) if parts is not None and takes(sign, starred, parts) else None


def is_clause(thing):
    """Whether a thing is a CLAUSE that can be passed."""
    return clause_reading(thing) is not None


def need_readings(thing):
    """The readings of the CLAUSEs of a thing, if it is a REQUIREMENT."""
    if not isinstance(thing, tuple) or len(thing) > MOST_CLAUSES:
        raise BadRequirement(())
    readings = []
    for at, item in enumerate(thing):
        reading = clause_reading(item)
        if reading is None:
            raise BadRequirement((at,))
        readings.append(reading)
    return readings


def need_requirement(thing):
    """The thing itself, if it is a REQUIREMENT."""
    need_readings(thing)
    return thing


def is_naming(readings):
    """Whether a REQUIREMENT of any number of CLAUSEs NAMES."""
    # A starred VERSION is a PLAIN one, so no FORERUNNER.
    return any([sign != "!=" and (parts[2] != UNMARKED or parts[5] >= 0) for sign, _, parts in readings])


def pinned_places(readings):
    """The places that any number of CLAUSEs PIN."""
    return [place_of(parts) for sign, starred, parts in readings if sign == "==" and not starred]


def names(requirement):
    """Whether a REQUIREMENT NAMES."""
    return is_naming(need_readings(requirement))


def pins(requirement):
    """The VERSIONs that a REQUIREMENT PINS, ascending."""
    places = pinned_places(need_readings(requirement))
    return tuple([place_text(place) for place in sorted(set(places))])


def requirement_text(requirement):
    """The text of a REQUIREMENT."""
    return ",".join([sign + text for sign, text in need_requirement(requirement)])


def clause_of(text):
    """The CLAUSE of a text, or None if it is no such text."""
    for sign in SIGNS:
        if text.startswith(sign):
            clause = (sign, text.removeprefix(sign))
            if is_clause(clause):
                return clause
    return None


def read_requirement(text):
    """The REQUIREMENT of a text."""
    if not isinstance(text, str):
        raise BadText(())
    if text == "":
        return ()
    clauses = [clause_of(part) for part in text.split(",")]
    if None in clauses:
        raise BadText((clauses.index(None),))
    return need_requirement(tuple(clauses))
