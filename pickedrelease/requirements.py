"""CLAUSEs and REQUIREMENTs: what they are, what they name and pin, their texts."""

from pickedrelease.errors import BadRequirement, BadText
from pickedrelease.versions import UNMARKED, is_forerunner, need_place, place_text, read_version

MOST_CLAUSES = 12
SIGNS = ("==", "!=", "<=", ">=", "<", ">", "~=")
STAR = ".*"

MOST_CLAUSE_NUMBERS = 8
GREATEST_NUMBER = 1000000000


def is_starred(text):
    """Whether the TEXT of a CLAUSE stands for a BLOCK."""
    return text.endswith(STAR)


def text_parts(text):
    """The parts of the VERSION in the TEXT of a CLAUSE, or None if there is none."""
    return read_version(text.removesuffix(STAR))


def is_plain(parts):
    """Whether parts are those of a PLAIN VERSION."""
    return parts[2:] == (UNMARKED, 0, -1, -1)


def is_within_limits(parts):
    """Whether parts are within the limits of the VERSIONs in CLAUSEs."""
    epoch, numbers, _, count, post, dev = parts
    return len(numbers) <= MOST_CLAUSE_NUMBERS and max(epoch, count, post, dev, *numbers) <= GREATEST_NUMBER


def takes(sign, text):
    """Whether a SIGN takes a TEXT."""
    parts = text_parts(text)
    if parts is None or not is_within_limits(parts):
        return False
    if is_starred(text):
        return sign in ("==", "!=") and is_plain(parts)
    if sign in ("<", ">"):
        return is_plain(parts)
    return sign != "~=" or len(parts[1]) >= 2


def is_clause(thing):
    """Whether a thing is a CLAUSE that can be passed."""
    if not isinstance(thing, tuple) or len(thing) != 2:
        return False
    sign, text = thing
    if not isinstance(sign, str) or not isinstance(text, str):
        return False
    return sign in SIGNS and takes(sign, text)


def need_requirement(thing):
    """The thing itself, if it is a REQUIREMENT."""
    if not isinstance(thing, tuple) or len(thing) > MOST_CLAUSES:
        raise BadRequirement(())
    for at, item in enumerate(thing):
        if not is_clause(item):
            raise BadRequirement((at,))
    return thing


def is_naming(clauses):
    """Whether a REQUIREMENT of any number of CLAUSEs NAMES."""
    return any([sign != "!=" and not is_starred(text) and is_forerunner(text) for sign, text in clauses])


def pinned_places(clauses):
    """The places that any number of CLAUSEs PIN."""
    return [need_place(text) for sign, text in clauses if sign == "==" and not is_starred(text)]


def names(requirement):
    """Whether a REQUIREMENT NAMES."""
    return is_naming(need_requirement(requirement))


def pins(requirement):
    """The VERSIONs that a REQUIREMENT PINS, ascending."""
    places = pinned_places(need_requirement(requirement))
    return tuple([place_text(place) for place in sorted(set(places))])


def requirement_text(requirement):
    """The text of a REQUIREMENT."""
    return ",".join([sign + text for sign, text in need_requirement(requirement)])


def read_clause(text):
    """The CLAUSE of a text, or None if it is no such text."""
    for sign in SIGNS:
        if text.startswith(sign):
            clause = (sign, text.removeprefix(sign))
            if is_clause(clause):
                return clause
    return None


def read_requirement(text):
    """The REQUIREMENT of a text."""
    if not isinstance(text, str):
        raise BadText(())
    if text == "":
        return ()
    clauses = [read_clause(part) for part in text.split(",")]
    if None in clauses:
        raise BadText((clauses.index(None),))
    return need_requirement(tuple(clauses))
