"""LISTs of RELEASEs, and which one of them a REQUIREMENT picks.

What a REQUIREMENT picks from any LIST goes by its rule, a tuple
(ranges, pinned, naming): the ranges that it lets in, whether it PINS a
VERSION that it lets in (which then is the only one), and whether it NAMES.
The package reckons with a LIST as its entries, pairs (place, withdrawn).
"""

from pickedrelease.errors import BadReleases, BadText
from pickedrelease.requirements import is_naming, need_readings, pinned_places
from pickedrelease.spans import is_inside, ranges_of
from pickedrelease.versions import is_final, place_of, read_version

MOST_RELEASES = 40
WITHDRAWN_SIGN = "-"


def rule_of(readings):
    """The rule of a REQUIREMENT of any number of CLAUSEs."""
    ranges = ranges_of(readings)
    return ranges, ranges != () and pinned_places(readings) != [], is_naming(readings)


def need_rule(requirement):
    """The rule of a thing, if it is a REQUIREMENT."""
    return rule_of(need_readings(requirement))


def read_release(thing):
    """The entry of a RELEASE, or None if a thing is none."""
    if not isinstance(thing, tuple) or len(thing) != 2:
        return None
    version, withdrawn = thing
    if not isinstance(version, str) or not isinstance(withdrawn, bool):
        return None
    parts = read_version(version)
    return None if parts is None else (place_of(parts), withdrawn)


def need_entries(thing):
    """The entries of a thing, if it is a LIST."""
    if not isinstance(thing, tuple) or len(thing) > MOST_RELEASES:
        raise BadReleases(())
    entries = []
    seen = set()
    for at, item in enumerate(thing):
        entry = read_release(item)
        if entry is None or entry[0] in seen:
            raise BadReleases((at,))
        entries.append(entry)
        seen.add(entry[0])
    return entries


def need_releases(thing):
    """The thing itself, if it is a LIST."""
    need_entries(thing)
    return thing


def is_candidate(entry, rule):
    """Whether the VERSION of an entry is a CANDIDATE."""
    place, withdrawn = entry
    ranges, pinned, _ = rule
    return (pinned or not withdrawn) and is_inside(place, ranges)


def worth(place, naming):
    """What CANDIDATEs compare by: the PICK is the one of the greatest worth."""
    return naming or is_final(place), place


def best_place(entries, rule):
    """The place of the PICK, or None."""
    worths = [worth(entry[0], rule[2]) for entry in entries if is_candidate(entry, rule)]
    return max(worths)[1] if worths else None


def candidates(requirement, releases):
    """The CANDIDATEs of a REQUIREMENT in a LIST, in its order."""
    rule = need_rule(requirement)
    entries = need_entries(releases)
    return tuple([release[0] for release, entry in zip(releases, entries) if is_candidate(entry, rule)])


def pick_by(rule, releases):
    """The PICK of a rule from a LIST, or None."""
    entries = need_entries(releases)
    best = best_place(entries, rule)
    if best is None:
        return None
    return releases[[place for place, _ in entries].index(best)][0]


def pick(requirement, releases):
    """The PICK of a REQUIREMENT from a LIST, or None."""
    return pick_by(need_rule(requirement), releases)


def release_text(release):
    """The text of a RELEASE."""
    version, withdrawn = release
    return WITHDRAWN_SIGN + version if withdrawn else version


def releases_text(releases):
    """The text of a LIST."""
    return " ".join([release_text(release) for release in need_releases(releases)])


def release_of(text):
    """The RELEASE of a text, if it is one."""
    return text.removeprefix(WITHDRAWN_SIGN), text.startswith(WITHDRAWN_SIGN)


def read_releases(text):
    """The LIST of a text."""
    if not isinstance(text, str):
        raise BadText(())
    if text == "":
        return ()
    releases = [release_of(part) for part in text.split(" ")]
    for at, release in enumerate(releases):
        if read_release(release) is None:
            raise BadText((at,))
    return need_releases(tuple(releases))
