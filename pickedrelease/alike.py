"""Whether REQUIREMENTs pick the same from all LISTs, and LISTs by which they do not."""

from pickedrelease.picking import need_rule, worth
from pickedrelease.spans import samples, samples_of, without
from pickedrelease.versions import is_final, place_text


def list_of(places, withdrawn=False):
    """The LIST of some places."""
    return tuple([(place_text(place), withdrawn) for place in places])


def rise(ranges):
    """The places of a FINAL VERSION and a greater FORERUNNER in some ranges, or None."""
    places = samples_of(ranges)
    finals = [place for place in places if is_final(place)]
    forerunners = [place for place in places if not is_final(place)]
    if finals and forerunners and min(finals) < max(forerunners):
        return min(finals), max(forerunners)
    return None


def lost(old, new):
    """A LIST of one RELEASE that the old rule picks and the new one does not, or None."""
    ranges = without(old[0], new[0])
    if ranges:
        low, high = ranges[0]
        return list_of(samples(low, high)[:1])
    if old[1] and not new[1]:
        return list_of([old[0][0][0]], True)
    return None


def turned(one, other):
    """A LIST of two RELEASEs that both rules let in and pick differently from, as only one of them NAMES, or None.

    The rules let in the same VERSIONs, or those of the first one.
    """
    places = rise(one[0]) if one[2] != other[2] else None
    return None if places is None else list_of(places)


def outdone(old, new):
    """A LIST of two RELEASEs, of which the old rule lets in one alone and the new one picks the other one, or None."""
    kept = [worth(place, new[2]) for place in samples_of(old[0])]
    added = [worth(place, new[2]) for place in samples_of(without(new[0], old[0]))]
    if kept and added and min(kept) < max(added):
        return list_of([min(kept)[1], max(added)[1]])
    return None


def parting(one, other):
    """A LIST of one or two RELEASEs from which two rules do not pick the same, or None."""
    return lost(one, other) or lost(other, one) or turned(one, other)


def picks_alike(one, other):
    """Whether two REQUIREMENTs PICK ALIKE."""
    return parted(one, other) is None


def parted(one, other):
    """A LIST of one or two RELEASEs from which two REQUIREMENTs do not pick the same, or None."""
    rule = need_rule(one)
    return parting(rule, need_rule(other))


def carries(old, new):
    """Whether a new REQUIREMENT CARRIES an old one."""
    return dropped(old, new) is None


def dropped(old, new):
    """A LIST of one or two RELEASEs from which old picks a RELEASE and new not the same, or None."""
    rule = need_rule(old)
    new_rule = need_rule(new)
    return lost(rule, new_rule) or outdone(rule, new_rule) or turned(rule, new_rule)


def is_rising(requirement):
    """Whether a REQUIREMENT is RISING."""
    return falling(requirement) is None


def falling(requirement):
    """A LIST and one with one RELEASE more, the PICK of which is less, or None."""
    ranges, _, naming = need_rule(requirement)
    places = None if naming else rise(ranges)
    if places is None:
        return None
    final, forerunner = places
    return list_of([forerunner]), list_of([forerunner, final])
