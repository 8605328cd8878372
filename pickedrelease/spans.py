"""Which VERSIONs a REQUIREMENT lets in.

The package reckons with ranges: ascending tuples of pairs (low, high) of
places, from low on and below high; a high of None is without an end. Between
two places that differ there is always a VERSION (the lesser one itself, or
one of those that come nearer and nearer to a BASE), so a range is without a
VERSION only if its low is not less than its high.
"""

from pickedrelease.requirements import need_readings
from pickedrelease.versions import (
    BEHIND_ALL,
    GREATEST,
    UNMARKED,
    first_place,
    least_place,
    need_place,
    next_place,
    place_behind,
    place_of,
    place_text,
    plain_place,
)


def next_numbers(numbers, length):
    """The first ones of some NUMBERs, so many, the last one of them made one more."""
    padded = numbers + (0,) * length
    return padded[:length - 1] + (padded[length - 1] + 1,)


def block_ends(epoch, numbers):
    """The low and the high of the BLOCK of an EPOCH and NUMBERs, as they are written."""
    return first_place(epoch, numbers), first_place(epoch, next_numbers(numbers, len(numbers)))


def clause_ends(reading):
    """The low and the high of what the TEXT of a CLAUSE stands for under its SIGN.

    This is a BLOCK, all VERSIONs of a BASE, the rest of a BLOCK, or one VERSION.
    """
    sign, starred, parts = reading
    epoch, numbers = parts[0], parts[1]
    if starred:
        return block_ends(epoch, numbers)
    if sign == "<" or sign == ">":
        return first_place(epoch, numbers), place_behind(epoch, numbers)
    place = place_of(parts)
    if sign == "~=":
        return place, block_ends(epoch, numbers[:-1])[1]
    return place, next_place(place)


def outer_ends(reading):
    """The low and the high of what a CLAUSE with another SIGN than "!=" lets in."""
    sign = reading[0]
    low, high = clause_ends(reading)
    if sign == "==" or sign == "~=":
        return low, high
    if sign == "<" or sign == "<=":
        return least_place(), low if sign == "<" else high
    return high if sign == ">" else low, None


def is_let_in(place, reading):
    """Whether a CLAUSE lets in the VERSION of a place."""
    if reading[0] == "!=":
        low, high = clause_ends(reading)
        return place < low or high <= place
    low, high = outer_ends(reading)
    return low <= place and (high is None or place < high)


def lesser_high(one, other):
    """The lesser of two highs."""
    if one is None:
        return other
    return one if other is None or one < other else other


def common(one, other):
    """The ranges of what is in both of two tuples of ranges."""
    ranges = []
    here = there = 0
    while here < len(one) and there < len(other):
        low = max(one[here][0], other[there][0])
        high = lesser_high(one[here][1], other[there][1])
        if high is None or low < high:
            ranges.append((low, high))
        if high == one[here][1]:
            here += 1
        else:
            there += 1
    return tuple(ranges)


def gaps_of(ranges):
    """The ranges of what is in none of these ranges."""
    gaps = []
    at = least_place()
    for low, high in ranges:
        if at < low:
            gaps.append((at, low))
        if high is None:
            return tuple(gaps)
        at = high
    return tuple(gaps + [(at, None)])


def without(one, other):
    """The ranges of what is in the first ranges and not in the other ones."""
    return common(one, gaps_of(other))


def without_cuts(start, end, cuts):
    """The ranges of what is from a start on and below an end, but between none of some lows and their highs."""
    ranges = []
    for low, high in sorted(cuts):
        if end is not None and end <= low:
            break
        if start < low:
            ranges.append((start, low))
        start = max(start, high)
    if end is None or start < end:
        ranges.append((start, end))
    return tuple(ranges)


def ranges_of(readings):
    """The ranges of what each of any number of CLAUSEs lets in."""
    start = least_place()
    end = None
    cuts = []
    for reading in readings:
        if reading[0] == "!=":
            cuts.append(clause_ends(reading))
        else:
            low, high = outer_ends(reading)
            start = max(start, low)
            end = lesser_high(end, high)
    return without_cuts(start, end, cuts)


def need_ranges(requirement):
    """The ranges of a thing, if it is a REQUIREMENT."""
    return ranges_of(need_readings(requirement))


def is_inside(place, ranges):
    """Whether a place is in one of these ranges."""
    for low, high in ranges:
        if high is None or place < high:
            return low <= place
    return False


def numbers_between(numbers, limit):
    """The NUMBERs of a BASE greater than that of some NUMBERs, and less than the greater one of a limit, if any."""
    length = 1
    tried = next_numbers(numbers, length)
    while (limit and tried >= limit) or tried[-1] > GREATEST:
        # What is told is to be passed, where it can be; the deeper, the nearer it is.
        length += 1
        tried = next_numbers(numbers, length)
    return tried


def samples_between(low, high):
    """Places of a BASE between those of a low and of a high: a FORERUNNER, a FINAL one, a FORERUNNER."""
    epoch, numbers = low[0], low[1]
    if high is not None and high[:2] == (epoch, numbers):
        return []
    limit = high[1] if high is not None and high[0] == epoch else ()
    between = numbers_between(numbers, limit)
    plain = plain_place(epoch, between)
    return [first_place(epoch, between), plain, next_place(plain)]


def next_final(place):
    """The place of the least FINAL VERSION of the same BASE from a place on."""
    epoch, numbers, stage, _, post, _, _ = place
    return epoch, numbers, UNMARKED, 0, post if stage == UNMARKED else -1, 1, 0


def samples(low, high):
    """Some places of a range.

    If the range has a FINAL VERSION, a FORERUNNER, or one of those and a
    greater one of these, there are such ones among the places.
    """
    tried = []
    if low[2] != BEHIND_ALL:
        final = next_final(low)
        tried = [low, next_place(low), final, next_place(final)]
    tried = tried + samples_between(low, high)
    return [place for place in tried if high is None or place < high]


def samples_of(ranges):
    """Some places of each of some ranges, as samples tells them."""
    return [place for low, high in ranges for place in samples(low, high)]


def told_low(low):
    """A low, as SPANs tell it."""
    return ("after" if low[2] == BEHIND_ALL else "from", place_text(low))


def told_high(high):
    """A high, as SPANs tell it."""
    return None if high is None else ("below", place_text(high))


def spans(requirement):
    """The SPANs of a REQUIREMENT."""
    return tuple([(told_low(low), told_high(high)) for low, high in need_ranges(requirement)])


def lets_in(requirement, version):
    """Whether a REQUIREMENT lets a VERSION in."""
    readings = need_readings(requirement)
    place = need_place(version)
    # All CLAUSEs are looked at ahead of the VERSION, but what they stand for only until one leaves it out.
    for reading in readings:
        if not is_let_in(place, reading):
            return False
    return True


def same_set(one, other):
    """Whether two REQUIREMENTs let in the same VERSIONs."""
    return need_ranges(one) == need_ranges(other)


def is_within(one, other):
    """Whether other lets in all VERSIONs that one lets in."""
    ranges = need_ranges(one)
    return common(ranges, need_ranges(other)) == ranges


def lets_nothing(requirement):
    """Whether a REQUIREMENT lets in no VERSION."""
    return need_ranges(requirement) == ()
