"""Points [9] to [11]: to PICK ALIKE, to CARRY, RISING, and the LISTs that show the contrary."""

import itertools
import unittest

import samples
from pickedrelease.alike import carries, dropped, falling, is_rising, parted, picks_alike
from pickedrelease.errors import BadRequirement
from pickedrelease.picking import need_releases, pick
from pickedrelease.requirements import read_requirement
from pickedrelease.spans import same_set
from pickedrelease.versions import plainest

GREAT = "1000000000"
ENDS = (".dev0", ".dev1", "a0.dev0", "a0", "a0.post0.dev0", "a0.post0", "rc1", "", ".post0.dev0", ".post0.dev1",
        ".post0",
        ".post1.dev0")

# Texts of REQUIREMENTs that are compared with each other, and the BASEs at and about whose bounds this is done.
GROUPS = (
    (("", ">=0.dev0", ">=1", ">1", ">=1.dev0", ">=1a0", "==1.*", ">=1.dev0,<2", "~=1.0", ">=1,==1.*", "~=1.0.dev0",
      "==1.*,>=0.dev0", "<2", "<=1", "<=1,>=1", "<=1.0,==0!1", "==1", "==1,>=0.dev0", "==1,!=1", "<0", "<1,>1,==1a0",
      "!=1", "!=1.*", "!=1,!=1.post0.dev0", ">=1,<=1.post0", "==1a0", ">=1a0,<=1a0", ">=1a0,<=1",
      ">=1a0,<=1,!=1a0.post0",
      ">=1,<=1.post0.dev0", "!=0.*", "<2,!=1a0", "!=1.post0.dev0,>=1,<=1.post0", ">=1,<=1.post0,!=1.post0.dev0,!=1"),
     ("0", "0.9", "0.0.0.1", "1", "1.0.0.0.1", "1.0.1", "1.9", "2", "2.0.0.1", "1!0")),
    (("==1.1.*,<=1.1.5", ">=1.1.dev0,<=1.1.5", ">=1.0,!=1.0.*", ">=1.1.dev0", "==1.*,!=1.0.*", "~=1.1", "~=1.1,<1.2",
      "~=1.1.0", ">1.0,<1.1", ">1.0,<1.1,!=1.0.*", ">=1.0.1,<1.1", "==1.0.*", "==1.0.*,!=1", "==1.1.*", "!=1.1.*",
      ">1.0,!=1.1.*", ">=1.1,!=1.1.5", ">=1.1.5", "<1.1", "<1.1.5,!=1.0.*", "==1.1.5", ">=1.1.5,<=1.1.5", "~=1.1.5",
      "~=1.1.5.dev0", ">=1.1.5,<1.2,>=0.dev0", ">=1.1.5,<1.2", "!=1.1.5", "==1.0.*,<=1", "==1.0.*,<=1,!=1.dev0"),
     ("0.9", "1", "1.0.0.0.1", "1.0.1", "1.0.9", "1.1", "1.1.0.0.1", "1.1.5", "1.1.5.0.1", "1.2", "2")),
    (("", ">=0.dev0", "<1!0", ">=1!0.dev0", ">=1!0", "==1!0.*", "==1!0.*,>=0.dev0", ">1!0", "!=1!0.*", "<=1!0.dev1",
      "<=1!0.dev1,!=1!0.dev1", "<=1!0.dev0", "<1!0,>=0.dev0", "!=0.dev0", "!=0.dev0,!=0.dev1", ">=0.dev1", ">=0.dev2",
      "<=0.dev0", "==0.dev0", "<=0.dev1", "<=0.dev1,!=0.dev0", "==0.dev1", "<=0", "==0", "<=0.post0,!=0",
      "<=0.post0,>=0", "<=0.post0,>=0,!=0.post0", "<0", "!=0", "!=0,>=0.dev0", ">0", "!=0.*", ">1,<1", "==1!0",
      ">=1!0,<=1!0"),
     ("0", "0.0.0.1", "0.1", "1", "9", "1!0", "1!0.0.0.1", "1!0.1", "1!1", "2!0")),
)


def points(bases):
    """VERSIONs of some BASEs."""
    return sorted([base + end for base in bases for end in ENDS], key=samples.key)


def picks_of(requirement, versions):
    """What is picked from each LIST of one and two of some VERSIONs, by point [7]: a place in a row, or None."""
    naming = samples.has_name(requirement)
    rows = []
    for at, version in enumerate(versions):
        inside = samples.all_take_in(requirement, version)
        worth = (naming or not samples.is_unfinished(version), at)
        rows.append((worth if inside else None,
                     worth if inside and samples.has_pinned(requirement, version) else None))
    told = [entry[1] if entry else None for row in rows for entry in row]
    for row, other in itertools.combinations(rows, 2):
        for one in row:
            for two in other:
                best = max(one, two) if one and two else one or two
                told.append(best[1] if best else None)
    return told


class Reckoned(unittest.TestCase):

    def check_list(self, told, most=2):
        self.assertIs(need_releases(told), told)
        self.assertIn(len(told), range(1, most + 1))
        for version, _ in told:
            self.assertEqual(plainest(version), version)

    def check_parted(self, one, other, told):
        self.check_list(told)
        self.assertNotEqual(samples.picked(one, told), samples.picked(other, told), (one, other, told))

    def check_dropped(self, old, new, told):
        self.check_list(told)
        best = samples.picked(old, told)
        self.assertIsNotNone(best)
        self.assertNotEqual(best, samples.picked(new, told), (old, new, told))

    def check_pair(self, one, other, rows, others):
        told = parted(one, other)
        self.assertIs(picks_alike(one, other), told is None)
        if told is None:
            self.assertEqual(rows, others, (one, other))
        else:
            self.check_parted(one, other, told)
        told = dropped(one, other)
        self.assertIs(carries(one, other), told is None)
        if told is None:
            self.assertTrue(all(here is None or here == there for here, there in zip(rows, others)), (one, other))
        else:
            self.check_dropped(one, other, told)

    def test_all_lists_of_one_and_two_releases(self):
        for texts, bases in GROUPS:
            versions = points(bases)
            things = [read_requirement(text) for text in texts]
            rows = [picks_of(thing, versions) for thing in things]
            for one, other in itertools.product(range(len(things)), repeat=2):
                self.check_pair(things[one], things[other], rows[one], rows[other])

    def test_falling_lists(self):
        for texts, bases in GROUPS:
            versions = points(bases)
            for thing in [read_requirement(text) for text in texts]:
                told = falling(thing)
                self.assertIs(is_rising(thing), told is None)
                if told is None:
                    self.check_rising(thing, versions)
                else:
                    self.check_falling(thing, told)

    def check_rising(self, thing, versions):
        finals = [at for at, version in enumerate(versions)
                  if samples.all_take_in(thing, version) and not samples.is_unfinished(version)]
        unfinished = [at for at, version in enumerate(versions)
                      if samples.all_take_in(thing, version) and samples.is_unfinished(version)]
        self.assertTrue(samples.has_name(thing) or not finals or not unfinished or max(unfinished) < min(finals), thing)

    def check_falling(self, thing, told):
        self.assertIsInstance(told, tuple)
        few, more = told
        self.check_list(more, 40)
        self.check_list(few, 39)
        self.assertEqual((few, len(more)), (more[:-1], len(few) + 1))
        here, there = samples.picked(thing, few), samples.picked(thing, more)
        self.assertIsNotNone(here)
        self.assertTrue(there is None or samples.key(there) < samples.key(here), (thing, told))


# Texts of REQUIREMENTs that PICK ALIKE.
ALIKE = (
    ("", ""), (">=1.0", ">=0!1"), ("~=1.4", ">=1.4,==1.*"), ("~=1.4", ">=1.4,<2"), ("==1.0.*", "==1.*,==1.0.*,!=2"),
    ("<1", "<=1,!=1.*"), ("==1", "==1.0,!=2"), ("==1", "==1,>=1a1"), ("<0", "==1,!=1"), ("<0", "==1rc1,==2"),
    ("==1,<1", ">1,<1"), ("<=1,>=1", ">=1.0,<=1.0.0"), ("<=1.dev0,>=1.dev0", ">=1.dev0,<=1.dev0,!=1"),
    ("==1a1", "==1a1,<2"), ("<=0.dev0", "<=0.0.dev0"), ("!=0.*", "!=0.*,!=0.1,!=0.2.*"),
    # NAMES is not felt: no FORERUNNER is greater than a FINAL one.
    ("<=1,>=1", "<=1,>=1,>=0.dev0"), (">=1a1,<=1a9", ">=1a1,<=1a9,<1.1"), ("<=2,!=1.*,!=0.*", ">=2.dev0,<=2"),
    ("<=0", "<=0,>=0.dev0"), ("<=0,!=0.dev0", "<=0,>=0.dev1"), ("<=0,<2", "<=0,>=0.dev0,<3"),
    ("<=0.post0,!=0", "<=0.post0,>=0.dev0,!=0"),
)

# Texts of REQUIREMENTs that do not, though most of them let in the same VERSIONs.
UNLIKE = (
    ("", ">=0.dev0"), ("", "<0"), (">=1.0", ">1.0"), ("==1", ">=1,<=1"), ("==1a1", ">=1a1,<=1a1"),
    ("==1,!=2", "<=1,>=1,>=0.dev0"), ("==1.0.*", ">=1.dev0,<1.1"), (">=1.0,!=1.0.*", ">=1.1.dev0"),
    ("~=1.4.dev0", "~=1.4"),
    ("==1.4.*", "~=1.4.0.dev0"), (">=1,<=1.post0,!=1.post0", ">=1,<=1.post0,!=1.post0,>=0.dev0"), ("", "!=1"),
    ("!=1", "!=1.0.*"), (">=1,<=1.post0", ">=1,<=1.post0,>=0.dev0"), (">1", ">1,>=0.dev0"),
    (">1,<1.0.0.1", ">1,<1.0.0.1,>=0.dev0"), ("<=0.dev0", "==0.dev0"), ("<=0,!=1", "<0"), (">=1", "!=0.*"),
    ("<=1", "<1"), (">=1", ">=1.post0.dev0"), ("<=0,!=0", "<=0"), ("<=1,!=1.*", "<1,>=0.dev0"),
)

# Texts of an old and a new REQUIREMENT: whether the new one CARRIES the old one.
CARRIED = (
    ("<0", "", True), ("<0", "==1", True), ("==1,!=1", "<0", True), ("", "<0", False), ("", "", True),
    ("", ">=0.dev0", False), (">=0.dev0", "", False), ("==1", "==1,>=0.dev0", True), ("==1", "", False),
    # A new one may PIN; an old pin must stay.
    (">=1,<=1", "==1", True), ("==1", ">=1,<=1", False), (">=1a1,<=1a1", "==1a1", True),
    ("==1", ">=1,<=1.post0", False),
    # All that was let in must be.
    (">=1", "<=9", False), (">=1,<2", ">=1,<2,!=1.5", False), (">=1rc1,<=1rc1", "<=1rc1,!=1.*", False),
    # What is added must not be picked ahead of what was there.
    (">=1a1", ">=0a1", True), (">=1.dev0", ">=0.dev0", True), ("<=1", "<=2", False), (">=1,<2", ">=1", False),
    (">=1rc1,<=1", ">=0rc1,<=1", True), (">=1rc1,<=1rc1", "<=1rc1", True), (">=1rc1,<=1rc1", ">=1rc1,<=1", False),
    (">=1rc1,<=1rc1", "!=2,<=1rc1", True), (">=1a1,<=1a1", "<=1a1,>=1.dev0", True), (">=1,<=1", ">=1a1,<=1", True),
    # A FINAL one that is added is picked ahead of a FORERUNNER that was there, also of a greater one.
    (">=1", ">=0", False), (">=2", ">=1,!=1.5", False), (">=1.dev0", "", False), (">=1rc1,<=1rc1", "<=1,!=1", False),
    (">=1,<=1", "<=1", True), (">=1,<=1", ">=0,<=1,!=0.5", True), (">=1.post0,<=1.post0", "<=1.post0,>=1", True),
    # A FORERUNNER that is added is not picked ahead of a FINAL one that was there, unless the new one NAMES.
    (">=1,<=1", ">=1,<=1.post0,!=1.post0", True), (">=1,<=1", ">=1,<=1.post0,!=1.post0,>=0.dev0", False),
    (">=1,<=1", ">=1,<=1.post0.dev0", False), (">=1,<=1", ">=1,<=1.post0", False),
    (">=1rc1,<=1rc1", "==1.*,<=1,!=1", False),
    # Both pick from the same VERSIONs, but one NAMES.
    (">=1,<=1", ">=1,<=1,>=0.dev0", True), (">=1,<=1.post0", ">=1,<=1.post0,>=0.dev0", False),
    (">=1,<=1.post0,>=0.dev0", ">=1,<=1.post0", False), (">=1", ">=1a1", False), ("==1.*", ">=1.dev0,<2", False),
)

# Texts of REQUIREMENTs: whether they are RISING.
RISE = (
    ("", False), (">=0.dev0", True), ("<0", True), (">1", False), (">1,<1.0.0.0.1", False), ("<1,>1", True),
    ("<=0", True),
    ("<=1", False), (">=1,<=1", True), (">=1,<=1.post0", False), (">=1,<=1.post0.dev0", True),
    (">=1,<=1.post0,!=1.post0", False), (">=1,<=1.post0,!=1", True), (">=1,<=1.post0,!=1.post0.dev0", False),
    ("==1", True), ("==1.*", False), ("~=1.4", False), ("~=1.4.dev0", True), (">=1rc1,<=1", True),
    (">=1.post0.dev1,<=1.post0", True), ("<=0.post0", False), ("<=0.post0,!=0", True),
    ("<=0.post0,!=0.post0.dev0", False),
    ("!=1rc1", False), ("==1rc1", True), (">=1rc1,<=1rc1", True), ("<=0.dev5", True), ("<=2,!=1.*,!=0.*", True),
    (">2,<1!1", False), (">2,<=1!0.1rc1,>=0.dev0", True), (">=9,<1!0.5", False), ("<=2.post0.dev0,!=1.*,!=0.*", True),
    ("<=2.post0,!=1.*,!=0.*", False),
)


class ByHand(unittest.TestCase):

    def test_functions_are_defined_in_their_file(self):
        for call in (picks_alike, parted, carries, dropped, is_rising, falling):
            self.assertEqual(call.__module__, "pickedrelease.alike")

    def test_alike(self):
        for one, other in ALIKE:
            one, other = read_requirement(one), read_requirement(other)
            self.assertIs(picks_alike(one, other), True, (one, other))
            self.assertIs(picks_alike(other, one), True, (one, other))
            for call in (parted, dropped):
                self.assertIsNone(call(one, other), (one, other))
                self.assertIsNone(call(other, one), (one, other))
            self.assertIs(carries(one, other), True)
            self.assertIs(carries(other, one), True)

    def test_unlike(self):
        for one, other in UNLIKE:
            one, other = read_requirement(one), read_requirement(other)
            for here, there in ((one, other), (other, one)):
                self.assertIs(picks_alike(here, there), False, (here, there))
                told = parted(here, there)
                self.assertNotEqual(pick(here, told), pick(there, told), (here, there, told))

    def test_each_with_itself(self):
        for text in {text for texts, _ in GROUPS for text in texts}:
            thing = read_requirement(text)
            self.assertIs(picks_alike(thing, thing), True)
            self.assertIs(picks_alike(thing, thing + thing), True)
            self.assertIs(carries(thing, thing[::-1]), True)
            self.assertIsNone(parted(thing, thing))
            self.assertIsNone(dropped(thing, thing))

    def test_alike_is_to_carry_both_ways(self):
        for texts, _ in GROUPS:
            for one, other in itertools.combinations([read_requirement(text) for text in texts], 2):
                both = carries(one, other) and carries(other, one)
                self.assertIs(picks_alike(one, other), both, (one, other))
                if both:
                    self.assertIs(same_set(one, other), True)

    def test_carries(self):
        for old, new, wanted in CARRIED:
            self.assertIs(carries(read_requirement(old), read_requirement(new)), wanted, (old, new))

    def test_rising(self):
        for text, wanted in RISE:
            thing = read_requirement(text)
            self.assertIs(is_rising(thing), wanted, text)
            self.assertIs(falling(thing) is None, wanted, text)

    def test_a_pin_is_told_by_a_withdrawn_release(self):
        for call in (parted, dropped):
            self.assertEqual(call((("==", "1.0"),), ((">=", "1.0"), ("<=", "1"))), (("1", True),))
        self.assertEqual(parted(((">=", "1.0"), ("<=", "1")), (("==", "1.0.0"),)), (("1", True),))
        self.assertIsNone(dropped(((">=", "1.0"), ("<=", "1")), (("==", "1.0.0"),)))

    def test_great_numbers(self):
        long = f"{GREAT}!" + ".".join([GREAT] * 8)
        some = [((sign, long),) for sign in ("<", ">", "<=", ">=", "==", "!=", "~=")]
        some += [((sign, long + ".*"),) for sign in ("==", "!=")]
        some += [((sign, f"{long}rc{GREAT}.post{GREAT}.dev{GREAT}"),) for sign in ("<=", ">=", "==", "!=", "~=")]
        some += [((">", "1"), ("<", "1")), ((">", long.rpartition(".")[0]), ("<", long))]
        for one, other in itertools.product(some, repeat=2):
            told = parted(one, other)
            self.assertIs(told is None, one == other)
            for tale, call in ((told, parted), (dropped(one, other), dropped)):
                if tale is not None:
                    self.assertIs(need_releases(tale), tale)
                    self.assertNotEqual(samples.picked(one, tale), samples.picked(other, tale), (one, other, call))
        for thing in some:
            told = falling(thing)
            if told is not None:
                few, more = told
                self.assertLess(samples.key(samples.picked(thing, more)), samples.key(samples.picked(thing, few)))
                self.assertIs(need_releases(more), more)

    def test_equal_calls_return_equal_results(self):
        for one, other in UNLIKE + ALIKE:
            for call in (parted, dropped):
                self.assertEqual(call(read_requirement(one), read_requirement(other)),
                                 call(read_requirement(one), read_requirement(other)))
            self.assertEqual(falling(read_requirement(one)), falling(read_requirement(one)))


class Refused(unittest.TestCase):

    def refused(self, place, call, *arguments):
        for _ in range(2):
            with self.assertRaises(BadRequirement) as caught:
                call(*arguments)
            self.assertEqual(caught.exception.place, place)

    def test_wrong_requirements(self):
        wrong = ((None, ()), ([], ()), ("", ()), (((">=", "01"),), (0,)), (((">=", "1"), None), (1,)),
                 (((">=", "1"),) * 13, ()), ((("==", "1.0.0.0.0.0.0.0.0"),), (0,)), (((">=", "1000000001"),), (0,)))
        wrong += tuple((thing, (0,) if isinstance(thing, tuple) else ()) for thing in samples.no_strings())
        for thing, place in wrong:
            for call in (picks_alike, parted, carries, dropped):
                for other in ((), (("<", "0"),), ((">=", "1"),)):
                    self.refused(place, call, thing, other)
                    self.refused(place, call, other, thing)
            for call in (is_rising, falling):
                self.refused(place, call, thing)

    def test_the_first_argument_comes_first(self):
        first, second = ((">=", "1"), None), ((">=", "1"), (">=", "1"), None)
        for call in (picks_alike, parted, carries, dropped):
            self.refused((1,), call, first, second)
            self.refused((2,), call, second, first)
            self.refused((), call, None, second)
            self.refused((2,), call, second, None)

    def test_a_refused_call_changes_no_later_answer(self):
        one, other = ((">=", "1.0"), ("!=", "1.0.*")), ((">=", "1.1.dev0"),)
        told = [call(one, other) for call in (parted, dropped)], falling(one), falling(other)
        for thing in (None, (None,), [">=1"]):
            for call in (picks_alike, parted, carries, dropped):
                with self.assertRaises(BadRequirement):
                    call(one, thing)
            with self.assertRaises(BadRequirement):
                falling(thing)
            self.assertEqual(([call(one, other) for call in (parted, dropped)], falling(one), falling(other)), told)


if __name__ == "__main__":
    unittest.main()
