"""Whether a PICK stays, whatever is released later."""

from pickedrelease.picking import best_place, need_entries, need_rule, worth
from pickedrelease.spans import common, gaps_of, samples
from pickedrelease.versions import is_version, next_place, place_text


def listed_ranges(entries):
    """The ranges of the VERSIONs of a LIST."""
    return tuple([(place, next_place(place)) for place in sorted([entry[0] for entry in entries])])


def above_all(entries):
    """The ranges of what is greater than all VERSIONs of a LIST."""
    listed = listed_ranges(entries)
    return ((listed[-1][1], None),) if listed else gaps_of(())


def breaker_among(entries, rule, free):
    """A VERSION in free ranges that is picked, if it is put into a LIST, or None.

    The LIST has none of what is free, so its PICK is not amid a range; and the
    samples of a range are of all kinds that it has. One that can be passed is
    told ahead of others.
    """
    best = best_place(entries, rule)
    least = None if best is None else worth(best, rule[2])
    told = None
    for low, high in reversed(common(rule[0], free)):
        if least is not None and least[0] and low < best:
            # What is ahead of such a PICK is worth less.
            return told
        for place in samples(low, high):
            if least is None or worth(place, rule[2]) > least:
                text = place_text(place)
                if is_version(text):
                    return text
                told = text
    return told


def breaker_in(entries, rule):
    """A BREAKER of a rule and the entries of a LIST, or None."""
    return breaker_among(entries, rule, gaps_of(listed_ranges(entries)))


def lasts(requirement, releases):
    """Whether the PICK from a LIST, or None, LASTS."""
    return breaker(requirement, releases) is None


def lasts_upwards(requirement, releases):
    """Whether the PICK from a LIST, or None, lasts UPWARDS."""
    return breaker_upwards(requirement, releases) is None


def breaker(requirement, releases):
    """A BREAKER of the PICK from a LIST, or None."""
    rule = need_rule(requirement)
    return breaker_in(need_entries(releases), rule)


def breaker_upwards(requirement, releases):
    """A BREAKER of the PICK from a LIST that is greater than all of this, or None."""
    rule = need_rule(requirement)
    entries = need_entries(releases)
    return breaker_among(entries, rule, above_all(entries))
