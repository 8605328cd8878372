"""Whether a PICK stays, whatever is released later."""

from pickedrelease.picking import best_place, need_entries, need_rule, worth
from pickedrelease.spans import common, gaps_of, samples_of
from pickedrelease.versions import is_version, next_place, place_text


def listed_ranges(entries):
    """The ranges of the VERSIONs of a LIST."""
    return tuple([(place, next_place(place)) for place in sorted([entry[0] for entry in entries])])


def above_all(entries):
    """The ranges of what is greater than all VERSIONs of a LIST."""
    listed = listed_ranges(entries)
    return ((listed[-1][1], None),) if listed else gaps_of(())


def better_places(entries, rule, free):
    """Places in free ranges that are picked, if they are put into a LIST.

    There are some if any is: the LIST has none of what is free, so the PICK
    is not amid a range, and a range has places of all kinds that it can have.
    """
    best = best_place(entries, rule)
    places = samples_of(common(rule[0], free))
    return [place for place in places if best is None or worth(place, rule[2]) > worth(best, rule[2])]


def told_breaker(places):
    """The BREAKER that is told of some: where possible one that can be passed."""
    texts = [place_text(place) for place in places]
    told = [text for text in texts if is_version(text)] + texts
    return told[0] if told else None


def breaker_in(entries, rule):
    """A BREAKER of a rule and the entries of a LIST, or None."""
    return told_breaker(better_places(entries, rule, gaps_of(listed_ranges(entries))))


def lasts(requirement, releases):
    """Whether the PICK from a LIST, or None, LASTS."""
    return breaker(requirement, releases) is None


def lasts_upwards(requirement, releases):
    """Whether the PICK from a LIST, or None, lasts UPWARDS."""
    return breaker_upwards(requirement, releases) is None


def breaker(requirement, releases):
    """A BREAKER of the PICK from a LIST, or None."""
    rule = need_rule(requirement)
    return breaker_in(need_entries(releases), rule)


def breaker_upwards(requirement, releases):
    """A BREAKER of the PICK from a LIST that is greater than all of this, or None."""
    rule = need_rule(requirement)
    entries = need_entries(releases)
    return told_breaker(better_places(entries, rule, above_all(entries)))
