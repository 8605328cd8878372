"""Which VERSIONs a REQUIREMENT lets in.

The package reckons with ranges: ascending tuples of pairs (low, high) of
places, from low on and below high; a high of None is without an end. Between
two places that differ there is always a VERSION (the lesser one itself, or
one of those that come nearer and nearer to a BASE), so a range is without a
VERSION only if its low is not less than its high.
"""

from pickedrelease.requirements import is_starred, need_requirement, text_parts
from pickedrelease.versions import (
    BEHIND_ALL,
    first_place,
    least_place,
    need_place,
    next_place,
    place_behind,
    place_of,
    place_text,
)


def block_ends(epoch, numbers):
    """The low and the high of the BLOCK of an EPOCH and NUMBERs, as they are written."""
    following_numbers = numbers[:-1] + (numbers[-1] + 1,)
    return first_place(epoch, numbers), first_place(epoch, following_numbers)


def clause_ends(sign, text):
    """The low and the high of what the TEXT of a CLAUSE stands for under its SIGN.

    This is a BLOCK, all VERSIONs of a BASE, the rest of a BLOCK, or one VERSION.
    """
    parts = text_parts(text)
    epoch, numbers = parts[0], parts[1]
    if is_starred(text):
        return block_ends(epoch, numbers)
    if sign in ("<", ">"):
        return first_place(epoch, numbers), place_behind(epoch, numbers)
    place = place_of(parts)
    if sign == "~=":
        return place, block_ends(epoch, numbers[:-1])[1]
    return place, next_place(place)


def clause_ranges(clause):
    """The ranges of a CLAUSE."""
    sign, text = clause
    low, high = clause_ends(sign, text)
    least = least_place()
    by_sign = {
        "==": ((low, high),),
        "~=": ((low, high),),
        "!=": ((least, low), (high, None)),
        "<": ((least, low),),
        "<=": ((least, high),),
        ">": ((high, None),),
        ">=": ((low, None),),
    }
    return by_sign[sign]


def lesser_high(one, other):
    """The lesser of two highs."""
    return min([high for high in (one, other) if high is not None], default=None)


def common(one, other):
    """The ranges of what is in both of two tuples of ranges."""
    pairs = [(max(low, start), lesser_high(high, end)) for low, high in one for start, end in other]
    return tuple([(low, high) for low, high in pairs if high is None or low < high])


def ranges_of(clauses):
    """The ranges of what each of any number of CLAUSEs lets in."""
    ranges = ((least_place(), None),)
    for clause in clauses:
        ranges = common(ranges, clause_ranges(clause))
    return ranges


def need_ranges(requirement):
    """The ranges of a thing, if it is a REQUIREMENT."""
    return ranges_of(need_requirement(requirement))


def is_inside(place, ranges):
    """Whether a place is in one of these ranges."""
    return any([low <= place and (high is None or place < high) for low, high in ranges])


def told_low(low):
    """A low, as SPANs tell it."""
    return ("after" if low[2] == BEHIND_ALL else "from", place_text(low))


def told_high(high):
    """A high, as SPANs tell it."""
    return None if high is None else ("below", place_text(high))


def spans(requirement):
    """The SPANs of a REQUIREMENT."""
    return tuple([(told_low(low), told_high(high)) for low, high in need_ranges(requirement)])


def lets_in(requirement, version):
    """Whether a REQUIREMENT lets a VERSION in."""
    ranges = need_ranges(requirement)
    return is_inside(need_place(version), ranges)


def same_set(one, other):
    """Whether two REQUIREMENTs let in the same VERSIONs."""
    return need_ranges(one) == need_ranges(other)


def is_within(one, other):
    """Whether other lets in all VERSIONs that one lets in."""
    ranges = need_ranges(one)
    return common(ranges, need_ranges(other)) == ranges


def lets_nothing(requirement):
    """Whether a REQUIREMENT lets in no VERSION."""
    return need_ranges(requirement) == ()
