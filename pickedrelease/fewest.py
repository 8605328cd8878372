"""With how few CLAUSEs the same picks can be had.

As point [13] says, a form needs at most two outer CLAUSEs, those with another
SIGN than "!=", perhaps one beside these that lets in all and NAMES, and
CLAUSEs with "!=" for the greatest BLOCKs, and the VERSIONs in no such BLOCK,
that are left out of what the outer ones let in. An offer is an outer CLAUSE,
as a tuple (clause, naming, below, above): whether it NAMES, and the CLAUSEs
with "!=" that it takes to leave out what it lets in below all that is to be
let in, and above all this; None if no few do.
"""

from itertools import combinations

from pickedrelease.alike import parting, rise
from pickedrelease.picking import rule_of
from pickedrelease.requirements import STAR, clause_reading, is_naming, need_readings
from pickedrelease.spans import block_ends, outer_ends
from pickedrelease.versions import (
    BEHIND_ALL,
    GREATEST,
    MOST_NUMBERS,
    UNMARKED,
    first_place,
    least_place,
    next_place,
    numbers_text,
    place_text,
    plain_place,
    previous_place,
)

NOTHING = ("<", "0")
NAMING_ALL = (">=", "0.dev0")


def block_around(place, gap):
    """The NUMBERs of the greatest BLOCK in a gap around what is at a place and close behind it, or None."""
    epoch, numbers = place[0], place[1]
    start, end = gap
    longest = max(1, len(numbers), 0 if end is None else len(end[1]))
    for length in range(1, longest + 1):
        block = (numbers + (0,) * length)[:length]
        low, high = block_ends(epoch, block)
        if start <= low and (end is None or high <= end):
            return block
    return None


def left_out(low, high, gap, most):
    """The CLAUSEs with "!=", few as can be, that leave out what is from low on and below high, of a gap around this.

    They leave out nothing outside of the gap. None if it takes more than most.
    The low is the place of a VERSION.
    """
    clauses = []
    at = low
    while at < high:
        if len(clauses) == most:
            return None
        block = block_around(at, gap)
        if block is None:
            clauses.append(("!=", place_text(at)))
            at = next_place(at)
        else:
            clauses.append(("!=", numbers_text(at[0], block) + STAR))
            at = block_ends(at[0], block)[1]
    return clauses


def left_out_below(low, start, most):
    """As left_out, of what is from low on and below the start of all that is let in."""
    return left_out(low, start, (least_place(), start), most)


def left_out_above(end, high, most):
    """As left_out, of what is from the end of all that is let in and below high."""
    if high is None:
        return [] if end is None else None
    return left_out(end, high, (end, None), most)


def offers_of(clauses, start, end, most):
    """The offers of those of some CLAUSEs that let in all from a start to an end."""
    offers = []
    for clause in clauses:
        # What is told may have more NUMBERs than what is passed.
        reading = clause_reading(clause, MOST_NUMBERS, GREATEST)
        low, high = outer_ends(reading)
        if low <= start and (high is None or (end is not None and end <= high)):
            below = left_out_below(low, start, most)
            above = left_out_above(end, high, most)
            offers.append((clause, is_naming([reading]), below, above))
    return offers


def final_ahead(place, length):
    """The place of a FINAL VERSION with at most so many NUMBERs, less than that of a place and near to it, or None."""
    epoch, numbers, stage, _, post, _, _ = place
    if len(numbers) > length:
        return plain_place(epoch, numbers[:length])
    if stage == UNMARKED and post >= 0:
        return epoch, numbers, UNMARKED, 0, post - 1, 1, 0
    return plain_place(epoch, numbers[:-1] + (numbers[-1] - 1,)) if numbers else None


def low_clauses(start):
    """CLAUSEs that let in from a start on, or from ahead of it without a FORERUNNER that they name."""
    if start[2] == BEHIND_ALL:
        return [(">", place_text(start))]
    final = final_ahead(start, len(start[1]))
    places = [start] if final is None else [start, final]
    return [(">=", place_text(place)) for place in places]


def high_clauses(end):
    """The CLAUSE that lets in up to an end, or to one more VERSION, if an end is wanted."""
    if end is None:
        return []
    if end == first_place(end[0], end[1]):
        return [("<", numbers_text(end[0], end[1]))]
    previous = previous_place(end)
    return [("<=", place_text(end if previous is None else previous))]


def padded_text(place, length):
    """The text of a place with so many NUMBERs, if it has not more."""
    epoch, numbers = place[0], place[1]
    return place_text((epoch, numbers + (0,) * (length - len(numbers))) + place[2:])


def rest_clauses(start, block):
    """CLAUSEs with "~=" that let in the end of a BLOCK, from about a start on or whole."""
    length = len(block) + 1
    places = [first_place(start[0], block), final_ahead(start, length)]
    if start[2] != BEHIND_ALL and len(start[1]) <= length:
        places.append(start)
    return [("~=", padded_text(place, length)) for place in places if place is not None]


def smallest_block(start, end):
    """The NUMBERs of the smallest BLOCK with all from a start to an end, or None."""
    found = None
    for length in range(1, max(1, len(start[1]), len(end[1])) + 1):
        block = (start[1] + (0,) * length)[:length]
        if block_ends(start[0], block)[1] < end:
            return found
        found = block
    return found


def block_clauses(start, end):
    """CLAUSEs that let in a BLOCK, or the rest of one, with all from a start to an end, if an end is wanted."""
    # A greater BLOCK begins no nearer to the start, and ends behind the end.
    block = None if end is None else smallest_block(start, end)
    if block is None:
        return []
    clauses = [("==", numbers_text(start[0], block) + STAR)]
    if block_ends(start[0], block)[1] == end:
        clauses += rest_clauses(start, block)
    return clauses


def shortest(rows):
    """The shortest of some lists, of which some are None, or None."""
    return min([row for row in rows if row is not None], key=len, default=None)


def form_with(chosen, none_chosen, wanted):
    """The CLAUSEs of a form with chosen offers, without those amid what is let in, or None if there is none.

    If wanted is True or False, the form NAMES or does not.
    """
    below = shortest([offer[2] for offer in chosen + none_chosen])
    above = shortest([offer[3] for offer in chosen + none_chosen])
    naming = any([offer[1] for offer in chosen])
    if below is None or above is None or (wanted is False and naming):
        return None
    outer = [offer[0] for offer in chosen]
    if wanted is True and not naming:
        outer.append(NAMING_ALL)
    return outer + below + above


def outer_form(ranges, wanted, most):
    """As form_with, with as few CLAUSEs as can be."""
    start, end = ranges[0][0], ranges[-1][1]
    none_chosen = [(None, False, left_out_below(least_place(), start, most), left_out_above(end, None, most))]
    clauses = low_clauses(start) + high_clauses(end) + block_clauses(start, end)
    offers = offers_of(clauses, start, end, most)
    choices = [[]] + [[offer] for offer in offers] + [[one, other] for one, other in combinations(offers, 2)]
    return shortest([form_with(chosen, none_chosen, wanted) for chosen in choices])


def inner_clauses(ranges, most):
    """The CLAUSEs with "!=" that leave out what is between ranges."""
    clauses = []
    for (_, end), (start, _) in zip(ranges, ranges[1:]):
        clauses += left_out(end, start, (end, start), most)
    return clauses


def fewest(requirement):
    """A FEWEST form of a REQUIREMENT."""
    readings = need_readings(requirement)
    ranges, pinned, naming = rule_of(readings)
    if ranges == ():
        return (NOTHING,)
    if pinned:
        return (("==", place_text(ranges[0][0])),)
    wanted = None if rise(ranges) is None else naming
    most = len(readings)
    return tuple(outer_form(ranges, wanted, most) + inner_clauses(ranges, most))


def needless(requirement):
    """The numbers of the NEEDLESS CLAUSEs of a REQUIREMENT."""
    readings = need_readings(requirement)
    rule = rule_of(readings)
    rest_rules = [rule_of(readings[:at] + readings[at + 1:]) for at in range(len(readings))]
    return tuple([at for at, rest_rule in enumerate(rest_rules) if parting(rule, rest_rule) is None])
