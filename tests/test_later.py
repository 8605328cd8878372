"""Point [12]: whether a PICK LASTS, and BREAKERs."""

import random
import unittest

import samples
from pickedrelease.errors import BadReleases, BadRequirement
from pickedrelease.later import breaker, breaker_upwards, lasts, lasts_upwards
from pickedrelease.picking import pick, read_releases
from pickedrelease.requirements import read_requirement
from pickedrelease.versions import is_version, plainest

CALLS = (lasts, lasts_upwards, breaker, breaker_upwards)

# Texts of REQUIREMENTs and of LISTs: whether the PICK LASTS, and whether it lasts UPWARDS.
TOLD = (
    ("", "", False, False), ("", "1", False, False), ("", "-1", False, False), ("", "2rc1", False, False),
    # What lets in nothing.
    ("<0", "", True, True), ("<0", "1 -2", True, True), ("==1,!=1", "1", True, True), ("==1,==2", "-1", True, True),
    ("==1rc1,>1", "", True, True),
    # Pins that are there, that are WITHDRAWN, that may still come.
    ("==1", "1", True, True), ("==1", "1.0.0", True, True), ("==1", "-1", True, True), ("==1.0", "2 -1 0", True, True),
    ("==1", "", False, False), ("==1", "2", False, True), ("==1", "0", False, False), ("==1", "1rc1", False, False),
    ("==1", "1.post0.dev0", False, True), ("==1", "0 2", False, True), ("==1,>2", "", True, True),
    # The same set without a pin.
    (">=1,<=1", "1", True, True), (">=1,<=1", "-1", True, True), (">=1,<=1", "", False, False),
    (">=1,<=1", "-1 2", True, True), (">=1,<=1", "2", False, True),
    # Finite sets, with all of their VERSIONs in the LIST, or all but one.
    ("<=0.dev2", "0.dev0 0.dev1 0.dev2", True, True), ("<=0.dev2", "-0.dev0 -0.dev1 -0.dev2", True, True),
    ("<=0.dev2", "0.dev2", True, True), ("<=0.dev2", "0.dev0 0.dev1", False, False),
    ("<=0.dev2", "0.dev1 -0.dev2", True, True), ("<=0.dev2", "-0.dev0 -0.dev2", False, True),
    ("<=0.dev2", "-0.dev1 -0.dev2", False, True), ("<=0.dev2", "-0.dev0 -0.dev1", False, False),
    ("<=1.post0.dev1,>=1", "1 1.post0.dev0", False, False), ("<=1.post0.dev1,>=1", "1.post0.dev1", True, True),
    ("<=1.post0.dev1,>=1", "1 -1.post0.dev0 -1.post0.dev1", True, True),
    ("<=1.post0.dev1,>=1", "-1 1.post0.dev0 -1.post0.dev1", True, True),
    ("<=1.post0.dev1,>=1", "-1.post0.dev0 -1.post0.dev1", False, True),
    # An upper bound that is taken, or is not.
    ("<=2", "2", True, True), ("<=2", "2.0 2rc1 1", True, True), ("<=2", "-2", False, True), ("<=2", "1", False, False),
    ("<=2", "1 2.post0.dev0", False, True), ("<=2", "2 3", True, True), ("<2", "1.9", False, False),
    ("<2", "1.9 2.dev0", False, True), ("<2", "2", False, True), ("<=2,>=0.dev0", "2", True, True),
    ("<=2rc1", "2rc1", True, True), ("<=2rc1", "1 2rc0", False, False), ("<=2rc1", "1 -2rc1", False, True),
    ("<=2rc1", "1 2rc1 3", True, True), ("<=2.post0", "2.post0", True, True), ("<=2.post0", "2", False, False),
    # A FINAL one that may come beside a FORERUNNER: a greater one, or just a lesser one.
    ("<=2", "2rc1", False, False), ("<=2", "2rc1 3", False, True), ("<=1.post0,>=1", "1.post0.dev0", False, False),
    ("<=1.post0,>=1,!=1.post0", "1.post0.dev0", False, False), ("<=1.post0,>=1,!=1", "1.post0.dev0", False, False),
    ("<=1.post0,>=1,!=1.post0", "1", True, True), ("<=1.post0,>=1,!=1.post0", "1 1.post0.dev0", True, True),
    ("<=1.post0,>=1,!=1.post0", "-1 1.post0.dev0", False, False),
    ("<=1.post0,>=1,!=1.post0", "-1 1.post0.dev0 -1.post0", False, True),
    # FORERUNNERs alone.
    ("<=1.post0,>=1,!=1,!=1.post0", "1.post0.dev5", False, False),
    ("<=1.post0,>=1,!=1,!=1.post0", "1.post0.dev5 1.post0", False, True), ("<=2,>=2.dev0", "2", True, True),
    ("==1rc1", "1rc1 1", True, True), (">=1rc1,<=1rc1", "1", False, True),
    # Without an end.
    (">=1", "1", False, False), (">=1", "1 -2", False, False), (">1", "1", False, False), ("!=2", "1!0", False, False),
    ("<1!0", "1!0", False, True), ("<1!0", "9", False, False), ("==1.0.*", "1.0.9", False, False),
    ("==1.0.*", "1.1", False, True), ("~=1.4.2", "1.4.2 1.5.dev0", False, True),
)

ENDS = (".dev0", ".dev1", "a0.dev0", "a0", "rc1", "", ".post0.dev0", ".post0.dev1", ".post0", ".post1.dev0")

# BASEs at and about the bounds of these REQUIREMENTs.
BASES = ("0", "0.0.0.1", "0.9", "1", "1.0.0.0.1", "1.0.1", "1.0.9", "1.1", "1.1.0.0.1", "1.9", "2", "2.0.0.1", "1!0",
         "1!1")
TEXTS = ("", ">=0.dev0", ">=1", ">1", "==1.*", "==1.0.*", "!=1.*", "~=1.0", "~=1.0.dev0", "<2", "<=2", "<=1", "==1",
         ">=1,<=1", "==1a0", ">=1a0,<=1a0", ">=1a0,<=1", ">=1,<=1.post0", ">=1,<=1.post0,!=1.post0",
         ">=1,<=1.post0,!=1,!=1.post0", "<=0.dev1", "<=0.dev0", "<=0", "<0", "==1,!=1", "<1!0", ">=1!0.dev0", "<=1a0",
         ">1,<1.1", ">1.0,<1.1,!=1.0.1", "<=2,!=1.*,!=0.*", "<=1.1rc1,!=1.0.*", "!=1,!=1.0.1,!=2,!=1!0",
         "<=1.post0.dev0")


class ByHand(unittest.TestCase):

    def test_functions_are_defined_in_their_file(self):
        for call in CALLS:
            self.assertEqual(call.__module__, "pickedrelease.later")

    def test_lasts(self):
        for requirement, releases, wanted, wanted_upwards in TOLD:
            thing, rows = read_requirement(requirement), read_releases(releases)
            for mixed in (rows, rows[::-1]):
                self.assertIs(lasts(thing, mixed), wanted, (requirement, releases))
                self.assertIs(lasts_upwards(thing, mixed), wanted_upwards, (requirement, releases))
                self.assertIs(breaker(thing, mixed) is None, wanted, (requirement, releases))
                self.assertIs(breaker_upwards(thing, mixed) is None, wanted_upwards, (requirement, releases))

    def test_the_only_breaker(self):
        for requirement, releases, told in (
                ("==1.0", "", "1"), ("==1.0rc1", "2 -1", "1rc1"), ("<=0.dev2", "0.dev0 0.dev1", "0.dev2"),
                ("<=0.dev2", "-0.dev0 -0.dev2", "0.dev1"), ("<=0.dev0", "", "0.dev0"), (">=1!1.0,<=1!1", "1", "1!1"),
                ("<=1.0.dev1,>=1.dev0", "1.dev0 3", "1.dev1")):
            self.assertEqual(breaker(read_requirement(requirement), read_releases(releases)), told)


class Reckoned(unittest.TestCase):

    def check_told(self, thing, rows, told):
        """Check that a BREAKER is one."""
        # It may be beyond the bounds of what can be passed.
        self.assertTrue(not is_version(told) or plainest(told) == told)
        for version, _ in rows:
            self.assertNotEqual(samples.key(version), samples.key(told))
        self.assertEqual(samples.picked(thing, rows + ((told, False),)), told, (thing, rows, told))
        self.assertNotEqual(samples.picked(thing, rows), told)

    def changes(self, thing, rows, version):
        """Whether a further RELEASE of a VERSION changes the PICK, by the words of point [7]."""
        best = samples.picked(thing, rows)
        return any(samples.picked(thing, rows + ((version, withdrawn),)) != best for withdrawn in (True, False))

    def check(self, thing, rows, versions):
        have = {samples.key(version) for version, _ in rows}
        most = max(have, default=(-1,))
        further = [version for version in versions if samples.key(version) not in have]
        upwards = [version for version in further if samples.key(version) > most]
        for some, is_lasting, call in ((further, lasts, breaker), (upwards, lasts_upwards, breaker_upwards)):
            told = call(thing, rows)
            self.assertIs(is_lasting(thing, rows), told is None)
            if told is None:
                for version in some:
                    self.assertFalse(self.changes(thing, rows, version), (thing, rows, version))
            else:
                self.check_told(thing, rows, told)
            if told is not None and call is breaker_upwards:
                self.assertGreater(samples.key(told), most)

    def test_against_further_versions(self):
        chance = random.Random(12)
        versions = [base + end for base in BASES for end in ENDS]
        for thing in [read_requirement(text) for text in TEXTS]:
            inside = [version for version in versions if samples.all_take_in(thing, version)]
            for count in (0, 1, 1, 1, 2, 2, 3, 6, 12):
                some = chance.sample(versions, count // 2) + chance.sample(inside, min(count, len(inside), 30))
                rows = tuple((version, chance.random() < 0.3) for version in dict.fromkeys(some))
                self.check(thing, rows, versions)

    def test_by_hand_against_further_versions(self):
        versions = [base + end for base in BASES for end in ENDS]
        for requirement, releases, _, _ in TOLD:
            self.check(read_requirement(requirement), read_releases(releases), versions)

    def test_later_lists_of_several_releases(self):
        chance = random.Random(12)
        versions = [base + end for base in BASES for end in ENDS]
        for text in TEXTS:
            thing = read_requirement(text)
            mixed = chance.sample(versions, 9)
            rows = tuple((version, chance.random() < 0.3) for version in mixed[:4])
            for count in range(5, 10):
                longer = rows + tuple((version, chance.random() < 0.3) for version in mixed[4:count])
                if lasts(thing, rows):
                    self.assertEqual(pick(thing, longer), pick(thing, rows))
                for version, _ in longer[4:]:
                    if pick(thing, longer) == version:
                        self.assertIs(lasts(thing, rows), False)

    def test_forty_releases(self):
        further = ("0", "0.dev0", "0.dev39", "0.dev40", "1", "1.38", "1.39", "1.39rc2", "1.39.post0", "1.40",
                   "1.post38",
                   "1.post39", "1.post40", "2rc1", "2", "1!0")
        for text in TEXTS + ("<=1.39", "<=1.38", "==1.39", "==1.38", "==2", ">=1.38,<=1.39", "<=0.dev38", "<=0.dev39"):
            for form in ("1.{}", "0.dev{}", "1.post{}.dev1", "1.{}rc1"):
                for every in (1, 2, 41):
                    rows = tuple((form.format(number), number % every == 0) for number in range(40))
                    self.check(read_requirement(text), rows, further)

    def test_versions_of_any_passed_size(self):
        big = "9" * 24
        for text in (big, f"{big}.dev{big}", f"{big}.post{big}", f"{big}!{big}", samples.long_version(60, big),
                     samples.long_version(60), samples.long_version(60, "1rc1"), f"0.{'0.' * 58}1"):
            for thing in TEXTS:
                self.check(read_requirement(thing), ((text, False),), ("0", "1", big + ".1", f"{big}!{big}.1"))

    def test_breakers_can_be_passed_where_the_list_has_small_versions(self):
        for requirement, releases, _, _ in TOLD:
            for call in (breaker, breaker_upwards):
                told = call(read_requirement(requirement), read_releases(releases))
                if told is not None:
                    self.assertIs(is_version(told), True)
                    rows = read_releases(releases) + ((told, False),)
                    self.assertEqual(pick(read_requirement(requirement), rows), told)

    def test_equal_calls_return_equal_results(self):
        for requirement, releases, _, _ in TOLD:
            for call in CALLS:
                self.assertEqual(call(read_requirement(requirement), read_releases(releases)),
                                 call(read_requirement(requirement), read_releases(releases)))


class Refused(unittest.TestCase):

    def refused(self, error, place, call, *arguments):
        for _ in range(2):
            with self.assertRaises(error) as caught:
                call(*arguments)
            self.assertEqual(caught.exception.place, place)

    def test_wrong_requirements_come_first(self):
        wrong = ((None, ()), ([], ()), (((">=", "01"),), (0,)), (((">=", "1"), None), (1,)), (((">=", "1"),) * 13, ()))
        wrong += tuple((thing, (0,) if isinstance(thing, tuple) else ()) for thing in samples.no_strings())
        for thing, place in wrong:
            for call in CALLS:
                self.refused(BadRequirement, place, call, thing, ())
                self.refused(BadRequirement, place, call, thing, None)
                self.refused(BadRequirement, place, call, thing, (("1", False), ("1.0", False)))

    def test_wrong_lists(self):
        wrong = ((None, ()), ([], ()), ("1", ()), ((("1", False), ("01", False)), (1,)), ((("1", 0),), (0,)),
                 ((("1", False), ("2", False), ("1.0", True)), (2,)), ((("1", False), ("2",)), (1,)),
                 (tuple((str(number), False) for number in range(41)), ()))
        wrong += tuple((thing, (0,) if isinstance(thing, tuple) else ()) for thing in samples.no_strings())
        for thing, place in wrong:
            for call in CALLS:
                for requirement in ((), (("<", "0"),), (("==", "1"),)):
                    self.refused(BadReleases, place, call, requirement, thing)

    def test_a_refused_call_changes_no_later_answer(self):
        thing, rows = ((">=", "1.0"),), (("1.0", False), ("2", True))
        told = [call(thing, rows) for call in CALLS]
        for call in CALLS:
            self.refused(BadReleases, (2,), call, thing, rows + (("2.0", False),))
            self.refused(BadRequirement, (1,), call, thing + (None,), rows)
        self.assertEqual([call(thing, rows) for call in CALLS], told)


if __name__ == "__main__":
    unittest.main()
