"""Few CLAUSEs that tell good VERSIONs from bad ones.

As point [15] says, some of four outer CLAUSEs are enough, those with another
SIGN than "!=", and one with "!=" for each bad VERSION that these let in. An
outer is such a CLAUSE with the low and the high of what it lets in, a tuple
(clause, low, high). The other tuples of places here are ascending.
"""

from pickedrelease.errors import BadQuestion
from pickedrelease.fewest import NOTHING, block_around, padded_text, shortest, smallest_block
from pickedrelease.requirements import STAR
from pickedrelease.spans import block_ends
from pickedrelease.versions import (
    is_version,
    least_place,
    need_place,
    next_place,
    numbers_text,
    place_text,
    plain_place,
)

MOST_TOLD = 20


def need_told(thing):
    """The places of some VERSIONs, EQUAL ones once, if a thing is a tuple of at most 20 VERSIONs."""
    if not isinstance(thing, tuple) or len(thing) > MOST_TOLD or not all([is_version(item) for item in thing]):
        raise BadQuestion("no tuple of at most 20 versions")
    return tuple(sorted(set([need_place(item) for item in thing])))


def shared_block(goods, bads):
    """The NUMBERs of the smallest BLOCK with all good VERSIONs, or None.

    If there is no smallest one, it is one with no bad VERSION of another BASE.
    """
    least = goods[0]
    longest = max([len(place[1]) for place in goods + bads])
    padded = least[1] + (0,) * (longest - len(least[1]))
    return smallest_block((least[0], padded), next_place(goods[-1]))


def nearest_start(least, length, bads):
    """The place of a VERSION with at most so many NUMBERs: that of the least good one, or ahead of it and near to it.

    No bad VERSION of its BASE is between.
    """
    epoch, numbers = least[0], least[1]
    if len(numbers) <= length:
        return least
    plain = plain_place(epoch, numbers[:length])
    posts = [bad[4] for bad in bads if plain <= bad and bad[:2] == plain[:2]]
    return plain[:4] + (max(posts) + 1, 1, 0) if posts else plain


def outers_of(goods, bads):
    """The outers that a LEAST TELLING requirement may have: none lets in less than its SIGN can."""
    least, behind = goods[0], next_place(goods[-1])
    outers = [((">=", place_text(least)), least, None),
              (("<=", place_text(goods[-1])), least_place(), behind)]
    block = shared_block(goods, bads)
    if block is not None:
        low, high = block_ends(least[0], block)
        length = len(block) + 1
        start = nearest_start(least, length, bads)
        # This lets in no less than the next one, but is plainer where it is enough.
        outers.append((("==", numbers_text(least[0], block) + STAR), low, high))
        outers.append((("~=", padded_text(start, length)), start, high))
    return outers


def leaving_out(bad, goods):
    """The CLAUSE with "!=" that leaves out a bad VERSION, no good one, and as much as such a CLAUSE can."""
    ahead = [good for good in goods if good < bad]
    behind = [good for good in goods if bad < good]
    gap = (next_place(ahead[-1]) if ahead else least_place(), behind[0] if behind else None)
    block = block_around(bad, gap)
    return ("!=", place_text(bad) if block is None else numbers_text(bad[0], block) + STAR)


def is_taken(place, outers):
    """Whether each of some outers lets in the VERSION of a place."""
    return all([low <= place and (high is None or place < high) for _, low, high in outers])


def form_with(outers, leavings):
    """The CLAUSEs of a TELLING requirement with some outers, by pairs of each bad VERSION and what leaves it out."""
    clauses = [clause for clause, _, _ in outers]
    for bad, clause in leavings:
        if is_taken(bad, outers) and clause not in clauses:
            clauses.append(clause)
    return clauses


def choices_of(outers):
    """All lists of some of the outers."""
    choices = [[]]
    for outer in outers:
        choices = choices + [chosen + [outer] for chosen in choices]
    return choices


def telling(good, bad):
    """A LEAST TELLING requirement of good and bad VERSIONs, or None."""
    goods = need_told(good)
    bads = need_told(bad)
    if [place for place in goods if place in bads]:
        return None
    if not bads:
        return ()
    if not goods:
        return (NOTHING,)
    if len(goods) == 1:
        return (("==", place_text(goods[0])),)
    leavings = [(place, leaving_out(place, goods)) for place in bads]
    return tuple(shortest([form_with(chosen, leavings) for chosen in choices_of(outers_of(goods, bads))]))
