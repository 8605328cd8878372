"""Points [7] and [17]: RELEASEs, LISTs and their texts, CANDIDATEs and the PICK."""

import itertools
import random
import unittest

import samples
from pickedrelease.errors import BadReleases, BadRequirement, BadText, PickError
from pickedrelease.picking import MOST_RELEASES, candidates, need_releases, pick, read_releases, releases_text
from pickedrelease.requirements import read_requirement

RELEASE = ("1.0", False)
FORTY = tuple((f"1.{number}", number % 2 == 1) for number in range(40))

# What is no RELEASE.
BAD_ITEMS = [["1.0", False], ("1.0",), ("1.0", False, False), (), ("1.0", 0), ("1.0", 1), ("1.0", None),
             ("1.0", "False"),
             ("1.0", ()), ("1.0", b""), (False, "1.0"), ("01", False), ("1.0.*", False), ("", True), ("-1.0", False),
             ("1.0 ", False), ("1.0\n", False), (b"1.0", False), (1, False), (None, False), (("1.0",), False),
             ("1" * 25, False), (samples.long_version(61), False), {"1.0": False}, {"1.0", False}, "1.0", "ab",
             (samples.Unequal(), False), ("1.0", samples.Unequal()), (samples.Plain(), samples.Plain())]

# Values that are no LIST, and their places.
WRONG = (
    (None, ()), ("", ()), ("1.0", ()), ([], ()), ([RELEASE], ()), ({"1.0": False}, ()), (RELEASE, (0,)),
    ((RELEASE, None), (1,)), (FORTY + (("2.0", False),), ()), (FORTY + (None,), ()), (FORTY[:39] + (None,), (39,)),
    ((("1.0", False), ("1", False)), (1,)), ((("1", True), ("2", False), ("0!1.0.0", False)), (2,)),
    ((("1", False), ("1", False), None), (1,)), ((None, ("1", False), ("1", False)), (0,)),
    ((("1", False), ("01", False), ("1", False)), (1,)), ((("0", False), ("0.0", True)), (1,)),
    ((("1!1rc1", False), ("1rc1", False), ("1!1.0rc1", False)), (2,)),
    ((("1.post0.dev0", False), ("1.0.post0.dev0", True)), (1,)),
)

WRONG_REQUIREMENTS = ((None, ()), ([], ()), (((">=", "01"),), (0,)), (((">=", "1"), None), (1,)),
                      (((">=", "1"),) * 13, ()), ("", ()))


def refused(test, error, place, call, *arguments):
    """Check that a call is refused with an error, at a place, and once more so."""
    for _ in range(2):
        with test.assertRaises(error) as caught:
            call(*arguments)
        test.assertEqual(caught.exception.place, place, arguments)


class Interface(unittest.TestCase):

    def test_constants(self):
        self.assertEqual(MOST_RELEASES, 40)

    def test_functions_are_defined_in_their_file(self):
        for call in (need_releases, candidates, pick, releases_text, read_releases):
            self.assertEqual(call.__module__, "pickedrelease.picking")


class Lists(unittest.TestCase):

    def test_a_list_is_returned_itself(self):
        for thing in ((), (RELEASE,), FORTY, (("1", True), ("1.dev0", False), ("1!1", True), ("1.0.1", False))):
            self.assertIs(need_releases(thing), thing)

    def test_versions_of_any_passed_size(self):
        big = "9" * 24
        thing = ((f"{big}!{samples.long_version(60, big)}rc{big}.post{big}.dev{big}", False),
                 (samples.long_version(60), True), (big, False))
        self.assertIs(need_releases(thing), thing)
        self.assertEqual(pick((), thing[1:]), big)

    def test_at_most_forty(self):
        self.assertIs(need_releases(FORTY), FORTY)
        refused(self, BadReleases, (), need_releases, FORTY + (("2", False),))
        refused(self, BadReleases, (), need_releases, (None,) * 41)
        refused(self, BadReleases, (), need_releases, (RELEASE,) * 41)

    def test_wrong_lists(self):
        for thing, place in WRONG:
            refused(self, BadReleases, place, need_releases, thing)

    def test_what_is_no_tuple(self):
        for thing in samples.no_strings():
            refused(self, BadReleases, (0,) if isinstance(thing, tuple) else (), need_releases, thing)

    def test_wrong_items(self):
        for item in BAD_ITEMS:
            for ahead in (0, 1, 7, 39):
                refused(self, BadReleases, (ahead,), need_releases, FORTY[:ahead] + (item,))
            refused(self, BadReleases, (1,), need_releases, (("2", False), item, item))
            refused(self, BadReleases, (), need_releases, FORTY + (item,))

    def test_wrong_versions(self):
        for version in samples.BAD_VERSIONS:
            refused(self, BadReleases, (1,), need_releases, (RELEASE, (version, False)))
        for thing in samples.no_strings():
            refused(self, BadReleases, (0,), need_releases, ((thing, False),))
            if thing is not True and thing is not False:
                refused(self, BadReleases, (0,), need_releases, (("1", thing),))

    def test_equal_versions(self):
        for one, other in itertools.product(("1", "1.0", "0!1", "1.0.0.0"), repeat=2):
            for ones, others in itertools.product((True, False), repeat=2):
                refused(self, BadReleases, (2,), need_releases, ((one, ones), ("2", False), (other, others)))

    def test_versions_that_are_near_to_each_other(self):
        thing = (("1", False), ("1.dev0", False), ("1a0", False), ("1b0", False), ("1rc0", False), ("1.post0", False),
                 ("1.post0.dev0", False), ("1.0.1", False), ("1!1", False), ("10", False),
                 ("1a0.post0", False), ("1a0.dev0", False), ("1a0.post0.dev0", False))
        self.assertIs(need_releases(thing), thing)

    def test_a_refusal_is_a_refused_argument(self):
        with self.assertRaises(PickError):
            need_releases(None)

    def test_a_refused_list_stays_and_is_not_kept(self):
        rows, inner = [RELEASE], ["1.0", False]
        refused(self, BadReleases, (), need_releases, rows)
        refused(self, BadReleases, (0,), need_releases, (inner,))
        self.assertEqual((rows, inner), ([RELEASE], ["1.0", False]))
        self.assertEqual(need_releases((RELEASE,)), (RELEASE,))


# Texts of REQUIREMENTs and of LISTs, and the CANDIDATEs and the PICK by hand.
PICKS = (
    (">=1.0,!=1.3.*", "1.2 1.3 2.0rc1 -1.4", ("1.2", "2.0rc1"), "1.2"),
    (">=1.0,!=1.3.*", "2.0rc1", ("2.0rc1",), "2.0rc1"),
    (">=1.0a1", "1.2 1.3 2.0rc1 -1.4", ("1.2", "1.3", "2.0rc1"), "2.0rc1"),
    (">=1.0a1", "2.0rc1", ("2.0rc1",), "2.0rc1"),
    ("", "", (), None),
    ("", "1", ("1",), "1"),
    ("", "-1", (), None),
    ("<0", "1 2 3", (), None),
    ("", "2 1 3 -4", ("2", "1", "3"), "3"),
    ("", "10 9", ("10", "9"), "10"),
    ("", "2.0.0 1!0.0 1.0", ("2.0.0", "1!0.0", "1.0"), "1!0.0"),
    # The text stands as in the LIST.
    ("==1", "1.0.0", ("1.0.0",), "1.0.0"),
    ("==0!1.0", "1.0.0 1.0.1", ("1.0.0",), "1.0.0"),
    ("", "0!1.0rc1.post0 -1.0", ("0!1.0rc1.post0",), "0!1.0rc1.post0"),
    # WITHDRAWN ones are CANDIDATEs only if they are PINNED.
    ("==1.0", "-1 2", ("1",), "1"),
    ("==1", "-1.0.0 -2", ("1.0.0",), "1.0.0"),
    ("==1.*", "-1", (), None),
    (">=1,<=1", "-1", (), None),
    ("==1,>=2", "-1 -2 3", (), None),
    ("==1,!=1", "-1 1.0.1", (), None),
    ("==1,==2", "-1 -2", (), None),
    ("!=2", "-1 2 -3", (), None),
    ("==1rc1", "-1rc1 1", ("1rc1",), "1rc1"),
    ("==1.0,==1,>=0", "-1.0.0", ("1.0.0",), "1.0.0"),
    # FORERUNNERs, with FINAL ones and without; named and not.
    ("", "1 2a1", ("1", "2a1"), "1"),
    ("", "1a1 2.dev0", ("1a1", "2.dev0"), "2.dev0"),
    ("", "-1 2a1 2b1", ("2a1", "2b1"), "2b1"),
    ("<=3a1", "1 2a1 3 3a1", ("1", "2a1", "3a1"), "3a1"),
    ("<=3", "1 2a1 3a1", ("1", "2a1", "3a1"), "1"),
    ("!=3a1", "1 2a1 3a1", ("1", "2a1"), "1"),
    ("!=3a1,>=0.dev0", "1 2a1 3a1", ("1", "2a1"), "2a1"),
    ("==2.*,!=2.1", "2.0.post1.dev0 2.0 2.1 2.0.post0", ("2.0.post1.dev0", "2.0", "2.0.post0"), "2.0.post0"),
    ("==2.*,!=2.1,~=2.0.dev0", "2.0.post1.dev0 2.0 2.1 2.0.post0", ("2.0.post1.dev0", "2.0", "2.0.post0"),
     "2.0.post1.dev0"),
    (">1", "1 1.post1 1.0.1.dev0", ("1.0.1.dev0",), "1.0.1.dev0"),
    (">1", "1 1.post1 1.0.1.dev0 1.0.1.post0", ("1.0.1.dev0", "1.0.1.post0"), "1.0.1.post0"),
    ("<2", "2.dev0 2rc1 1.9 1.10rc1", ("1.9", "1.10rc1"), "1.9"),
    ("", "1.dev0 1a1 1b1 1rc1", ("1.dev0", "1a1", "1b1", "1rc1"), "1rc1"),
    (">=0.dev0", "1.post0.dev9 1 1rc1", ("1.post0.dev9", "1", "1rc1"), "1.post0.dev9"),
)

VERSIONS = ("0.dev0", "0", "1.dev0", "1.0a1", "1.0rc1", "1.0", "1.0.post0.dev0", "1.post0", "1.0.1", "1.1.dev0", "1.1",
            "2rc1", "2.0", "1!0")
CLAUSES = (("==", "1.0"), ("==", "1.0rc1"), ("==", "1.0.*"), ("!=", "1.0"), ("!=", "1.0.*"), ("!=", "1.1.dev0"),
           (">=", "1.0"), (">=", "1.0a1"), ("<=", "1.1"), ("<=", "2.0rc1"), ("<", "2"), (">", "1"), ("~=", "1.0"),
           ("~=", "1.0.dev0"), (">=", "0.dev0"))


class Picks(unittest.TestCase):

    def test_picks_by_hand(self):
        for requirement, releases, told, best in PICKS:
            clauses, rows = read_requirement(requirement), read_releases(releases)
            self.assertEqual(candidates(clauses, rows), told, (requirement, releases))
            self.assertEqual(pick(clauses, rows), best, (requirement, releases))

    def test_the_order_of_the_list_does_not_matter_to_the_pick(self):
        for requirement, releases, told, best in PICKS:
            clauses, rows = read_requirement(requirement), read_releases(releases)
            mixed = rows[::-1]
            self.assertEqual(candidates(clauses, mixed), told[::-1], (requirement, releases))
            self.assertEqual(pick(clauses, mixed), best, (requirement, releases))

    def test_the_example_of_the_document(self):
        clauses = ((">=", "1.0"), ("!=", "1.3.*"))
        rows = (("1.2", False), ("1.3", False), ("2.0rc1", False), ("1.4", True))
        self.assertEqual(pick(clauses, rows), "1.2")
        self.assertEqual(pick(clauses, (("2.0rc1", False),)), "2.0rc1")
        self.assertEqual(pick(((">=", "1.0a1"),), rows), "2.0rc1")
        self.assertEqual(pick(((">=", "1.0a1"),), (("2.0rc1", False),)), "2.0rc1")

    def test_against_the_words_of_the_point(self):
        chance = random.Random(7)
        for count in (0, 1, 1, 2, 2, 3, 4) * 60:
            clauses = tuple(chance.choices(CLAUSES, k=count))
            rows = tuple((version, chance.random() < 0.3)
                         for version in chance.sample(VERSIONS, chance.randrange(len(VERSIONS))))
            self.assertEqual(candidates(clauses, rows), tuple(samples.all_candidates(clauses, rows)), (clauses, rows))
            self.assertEqual(pick(clauses, rows), samples.picked(clauses, rows), (clauses, rows))

    def test_forty_releases(self):
        self.assertEqual(pick((), FORTY), "1.38")
        self.assertEqual(len(candidates((), FORTY)), 20)
        self.assertEqual(pick((("==", "1.39"),), FORTY), "1.39")

    def test_what_is_returned(self):
        self.assertIsInstance(candidates((), ()), tuple)
        self.assertIsNone(pick((), ()))

    def test_bad_requirement_comes_first(self):
        for call in (candidates, pick):
            for thing, place in WRONG_REQUIREMENTS:
                refused(self, BadRequirement, place, call, thing, ())
                refused(self, BadRequirement, place, call, thing, None)
            for thing in samples.no_strings():
                place = (0,) if isinstance(thing, tuple) else ()
                refused(self, BadRequirement, place, call, thing, (RELEASE,))
                refused(self, BadReleases, place, call, (), thing)
            for thing, place in WRONG:
                refused(self, BadReleases, place, call, (), thing)
                refused(self, BadReleases, place, call, (("<", "0"),), thing)
                refused(self, BadRequirement, (1,), call, (("<", "0"), None), thing)

    def test_a_refused_call_changes_no_later_answer(self):
        clauses, rows = ((">=", "1.0"),), (("1.2", False), ("2rc1", False), ("3", True))
        for thing, place in WRONG:
            self.assertEqual(pick(clauses, rows), "1.2")
            self.assertEqual(candidates(clauses, rows), ("1.2", "2rc1"))
            refused(self, BadReleases, place, pick, clauses, thing)
            refused(self, BadReleases, place, candidates, clauses, thing)
        self.assertEqual((clauses, rows), (((">=", "1.0"),), (("1.2", False), ("2rc1", False), ("3", True))))


TEXTS = (
    ("", ()),
    ("1.0", (("1.0", False),)),
    ("-1.0", (("1.0", True),)),
    ("1.2 1.3 2.0rc1 -1.4", (("1.2", False), ("1.3", False), ("2.0rc1", False), ("1.4", True))),
    ("-1!1.0.0a1.post0.dev0 0!1.0", (("1!1.0.0a1.post0.dev0", True), ("0!1.0", False))),
    (" ".join(f"-1.{number}" for number in range(40)), tuple((f"1.{number}", True) for number in range(40))),
)


class Texts(unittest.TestCase):

    def test_texts_there_and_back(self):
        for text, thing in TEXTS:
            self.assertEqual(releases_text(thing), text)
            self.assertEqual(read_releases(text), thing)
            self.assertEqual(releases_text(read_releases(text)), text)

    def test_what_is_read_is_a_list(self):
        for text, _ in TEXTS:
            told = read_releases(text)
            self.assertIs(need_releases(told), told)
            for _, withdrawn in told:
                self.assertIsInstance(withdrawn, bool)

    def test_what_is_no_list_has_no_text(self):
        for thing, place in WRONG:
            refused(self, BadReleases, place, releases_text, thing)
        for item in BAD_ITEMS:
            refused(self, BadReleases, (1,), releases_text, (RELEASE, item))
        for thing in samples.no_strings():
            refused(self, BadReleases, (0,) if isinstance(thing, tuple) else (), releases_text, thing)

    def test_what_is_no_string(self):
        for thing in samples.no_strings() + [(), (RELEASE,), RELEASE, ["1.0"], 1]:
            refused(self, BadText, (), read_releases, thing)

    def test_empty_parts(self):
        for text, at in ((" ", 0), ("  ", 0), ("1 ", 1), (" 1", 0), ("1  2", 1), ("1 2 ", 2), ("1 2  3", 2)):
            refused(self, BadText, (at,), read_releases, text)

    def test_parts_that_are_none(self):
        for part in ("-", "--1", "1-", "+1", "01", "-01", "1.0.*", "1,2", "\n", "1\n", "-\n1", "1\n2", "none", "==1",
                     "1.",
                     "(1)", "1" * 25, samples.long_version(61), "!1", "-1!", "1.0-", "1-2"):
            refused(self, BadText, (0,), read_releases, part)
            refused(self, BadText, (1,), read_releases, "1.5 " + part)
            refused(self, BadText, (2,), read_releases, "1.5 -2 " + part + " 3 01")
            refused(self, BadText, (0,), read_releases, part + " 1.5")

    def test_equal_versions(self):
        for text, at in (("1 1", 1), ("1 -1.0", 1), ("-1 2 0!1", 2), ("1 2 3 2.0.0 1", 3)):
            refused(self, BadReleases, (at,), read_releases, text)

    def test_too_many_releases(self):
        for count in (41, 42, 100):
            refused(self, BadReleases, (), read_releases, " ".join(f"1.{number}" for number in range(count)))
        refused(self, BadReleases, (), read_releases, " ".join(["1"] * 41))

    def test_bad_text_comes_ahead_of_bad_releases(self):
        refused(self, BadText, (2,), read_releases, "1 1 01")
        refused(self, BadText, (40,), read_releases, "1 " * 40)
        refused(self, BadText, (45,), read_releases, "1 " * 45 + "x")

    def test_refused_texts_change_no_later_answer(self):
        told = read_releases("1 -2")
        for text in ("1 -02", None, "1 1", "1 " * 41):
            with self.assertRaises(PickError):
                read_releases(text)
        self.assertEqual(read_releases("1 -2"), told)


if __name__ == "__main__":
    unittest.main()
