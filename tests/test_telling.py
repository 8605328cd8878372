"""Point [15]: TELLING requirements, and LEAST ones."""

import itertools
import random
import time
import unittest

import samples
from pickedrelease.errors import BadQuestion, PickError
from pickedrelease.requirements import SIGNS, is_clause
from pickedrelease.spans import lets_in
from pickedrelease.telling import MOST_TOLD, telling

GREAT = "9" * 24
BEYOND = "1" + "0" * 24
SIXTY = samples.long_version(60, GREAT)

# Good and bad VERSIONs, and how many CLAUSEs tell them apart.
COUNTS = (
    # No good ones, no bad ones.
    ("", "", 0), ("1", "", 0), ("1 2 3!4rc1", "", 0), ("1 1.0", "", 0), ("", "1", 1), ("", "0.dev0", 1),
    ("", "0 1 2!3 4rc1", 1),
    # One good one alone, also in other texts.
    ("1", "2", 1), ("1", "0 0.9 1rc1 1.post0.dev0 1.0.1 1!1", 1), ("1.0 1 0!1 1.0.0", "0 2 1.post0.dev0 1.dev0", 1),
    ("1rc1.post0.dev3", "1rc1.post0.dev2 1rc1.post0.dev4", 1),
    # A lower or an upper end.
    ("2 3", "1", 1), ("2 3", "1 0 1.9 2rc1 2.dev0", 1), ("1 2", "3 4 5!0", 1), ("1 2", "2.post0.dev0 2.0.0.1", 1),
    ("2 4", "1 5", 2), ("2 4", "1 1.9 2rc1 4.post0 5", 2), ("2 2.post1", "2.dev0", 1),
    # A BLOCK, or its rest.
    ("1.2 1.4", "1.1 2", 1), ("1.2 1.4", "1.1 2 0.9 3", 1), ("1.2 1.4", "1.2rc1 2", 1), ("1.2 1.4", "1.2.dev0 1.5", 2),
    ("1.2rc1 1.4", "1.2b1 2", 1), ("1.2.3 1.4", "1.2 2", 1), ("1.2.3 1.4", "1.1 2", 1), ("1.2.3 1.4", "1 2", 1),
    ("1.2.3 1.4", "0.9 2", 1), ("1.2.3 1.4", "1.2.post4 1.2.post5.dev2 2", 1), ("1.2.3 1.4", "1.2.0.1 2", 2),
    ("1.2.3 1.4", "1.2.dev0 1.2rc7 2", 1), ("1!1.2 1!1.4", "1.3 1!1.1 1!2", 1), ("1!1.2 1!1.4", "1.3 1!2 2!0", 1),
    ("1.2 1!1.4", "1.1 1!2", 2), ("1.2 1!1.4", "1.3 1!0 1!1.3", 3), ("0.0.3 0.0.4", "0.0.2 0.1", 1),
    ("0.0.3 0.0.4", "0.0.3.dev0 0.0.5", 2), ("0.dev0 0", "0.0.1", 1), ("0.dev1 0", "0.dev0 0.0.1", 1),
    # VERSIONs of one BASE: there are BLOCKs without end around them.
    ("1rc1 1", "0.9 1.0.1", 1), ("1rc1 1", "1.0.0.0.0.1 1.0.0.0.1 0.9.9", 1), ("1 1.post1", "1rc1 1.0.0.0.1", 1),
    ("1 1.post1", "1rc1 1.post2", 2), ("1 1.post1", "1.post0", 1), ("1 1.post1", "1rc1 1.post0 1.0.1", 2),
    ("1 1.post1", "1rc1 1.post0 1.post2", 3), ("1.0.0.1 1.0.0.1rc1", "1 1.0.0.2", 1),
    # BLOCKs that are left out, and single VERSIONs.
    ("1 3", "2", 1), ("1 3", "2 2.0 2.0.0", 1), ("1 3", "2 2.1 2.5rc1 2.dev0", 1), ("1 3", "1.5", 1),
    ("1 3", "1.5 1.5.1 1.5rc2", 1), ("1 3", "1.5 1.6", 2), ("1 3", "1.5 2", 2), ("1 2", "1.post1", 1),
    ("1 2", "1.post1 1.post2", 2), ("1 2", "1.1 1.2 1.3", 3), ("1 2", "1.1 1.1.1 1.1.2.3", 1), ("1 5", "2 3 4", 3),
    ("1 5", "2 3 4 5.1", 4), ("1 5", "2 3 4 0", 4), ("1.0.0.1 2", "1.0.1 1.0.1.1", 1), ("1 1.0.0.1", "1.0.0.0.1", 1),
    ("1 2rc1", "2.dev0 2a1", 2), ("1 2rc1", "2.dev0 2a1 3", 3), ("1 2", "1!1 1!1.1", 1), ("1 1!2", "1!1 1!1.1", 1),
    ("1 1!2", "1!1 1!0", 2), ("1 1!2", "1!1 2", 2), ("0 2", "0.dev0 0.1 1", 3), ("0.1 2", "0", 1),
    # "!=" and outer CLAUSEs together.
    ("1.2 1.4", "1.1 2 1.3", 2), ("1.2 1.4", "1.1 2 1.3 1.3.1", 2), ("1.2 1.4", "1.3 1.3.1", 1),
    ("1.2 1.4", "1.1 1.0 1 1.3", 2), ("1 9", "2 4 6 8 8.1 0 10 11", 6), ("1 9", "2 4 6 8 8.1 10 11", 5),
    ("1.5 2 2.5", "1.4 1.6 2.4 2.6", 4), ("1.5 2 2.5", "1 1.1 1.6 2.4 2.6 3", 4), ("1.1 1.9", "1 1.5 2", 2),
)

# Good and bad VERSIONs with one that is EQUAL to one of the other ones.
UNTOLD = (("1", "1"), ("1", "1.0"), ("1 2 3", "4 0!3.0.0"), ("1!1rc1", "1!1.0rc1"), ("1 1", "1 1"), ("0", "2 0.0 1"),
          ("1.dev0 1.post0.dev0", "1.0.post0.dev0"), (SIXTY, "1 " + SIXTY))

# VERSIONs of searches; PLAIN ones and ends for the CLAUSEs of these.
BASES = ("0", "0.1", "1", "1.0.1", "1.0.0.1", "1.1", "1.1.1", "2", "1!0", "1!1")
ENDS = (".dev0", ".dev1", "a0", "rc1", "", ".post0.dev0", ".post0", ".post1")
CLAUSES = samples.clauses_of([base + ".0" * count for base in BASES for count in range(5)], ENDS + (".post2",))


def versions_of(text):
    """VERSIONs with a space between."""
    return tuple(text.split())


def other_text(version):
    """Another text of a VERSION."""
    epoch, numbers, behind = samples.FORM.fullmatch(version).groups()
    return f"{epoch or 0}!{numbers}.0.0{behind}"


def tells(thing, good, bad):
    """Whether a REQUIREMENT is a TELLING one, by the words of point [6]."""
    return (all(samples.all_take_in(thing, version) for version in good)
            and not any(samples.all_take_in(thing, version) for version in bad))


class Search:
    """What all CLAUSEs of a search do with its VERSIONs, as bits."""

    def __init__(self):
        self.versions = [base + end for base in BASES for end in ENDS]
        self.masks = {self.bits([version for version in self.versions if samples.takes_in(clause, version)])
                      for clause in CLAUSES}

    def bits(self, versions):
        return sum(1 << self.versions.index(version) for version in set(versions))

    def cuts(self, good, bad):
        """The greatest sets of bad VERSIONs that a CLAUSE leaves out that lets in all good ones."""
        goods, bads = self.bits(good), self.bits(bad)
        cuts = {bads & ~mask for mask in self.masks if mask & goods == goods} - {0}
        return [cut for cut in cuts if not any(cut != other and cut & other == cut for other in cuts)]

    def count(self, good, bad):
        """How many CLAUSEs of the search it takes to leave out all bad VERSIONs."""
        cuts, bads = self.cuts(good, bad), self.bits(bad)
        reached = {0}
        for count in range(len(bad) + 1):
            if bads in reached:
                return count
            reached = {left_out | cut for left_out in reached for cut in cuts}
        return None


class Reckoned(unittest.TestCase):

    def check_told(self, good, bad, told):
        """Check that what is told has the form of a REQUIREMENT, is TELLING, and has no CLAUSE too many."""
        self.assertIs(type(told), tuple)
        for clause in told:
            self.assertIs(type(clause), tuple)
            sign, text = clause
            self.assertIn(sign, SIGNS)
            self.assertTrue(samples.PARTS.fullmatch(text.removesuffix(".*")), text)
            self.assertTrue(not text.endswith(".*") or sign in ("==", "!="), clause)
        self.assertTrue(tells(told, good, bad), (good, bad, told))
        for at in range(len(told)):
            self.assertFalse(tells(told[:at] + told[at + 1:], good, bad), (good, bad, told))
        if len(told) <= 12 and all(is_clause(clause) for clause in told):
            self.assertTrue(all(lets_in(told, version) for version in good))
            self.assertFalse(any(lets_in(told, version) for version in bad))

    def check(self, good, bad, count):
        told = telling(good, bad)
        self.check_told(good, bad, told)
        self.assertEqual(len(told), count, (good, bad, told))

    def test_by_hand(self):
        for goods, bads, count in COUNTS:
            good, bad = versions_of(goods), versions_of(bads)
            self.check(good, bad, count)
            # Neither the order nor VERSIONs that are told twice count.
            self.check(good[::-1], bad[::-1], count)
            self.check(good + good[:1], bad + bad[-1:], count)
            self.check(good[1:] + good, bad + bad, count)

    def test_other_texts_of_the_same_versions(self):
        for goods, bads, count in COUNTS:
            good, bad = versions_of(goods), versions_of(bads)
            others = tuple(other_text(version) for version in bad)
            self.check(tuple(other_text(version) for version in good), bad, count)
            self.check(good, others, count)
            self.check(good, bad + others, count)

    def test_there_is_none(self):
        for goods, bads in UNTOLD:
            good, bad = versions_of(goods), versions_of(bads)
            self.assertIsNone(telling(good, bad))
            self.assertIsNone(telling(bad, good))
            self.assertIsNone(telling(good + ("7", "8"), ("9", "10") + bad))

    def test_against_a_search_of_two_clauses(self):
        search = Search()
        masks = sorted(search.masks)
        pairs = {one & other for one, other in itertools.product(masks, repeat=2)}
        chance = random.Random(15)
        for _ in range(40):
            pool = chance.sample(search.versions, chance.randrange(3, 9))
            good, bad = tuple(pool[:2]), tuple(pool[2:])
            goods, bads = search.bits(good), search.bits(bad)
            told = telling(good, bad)
            self.check_told(good, bad, told)
            for count, some in ((1, masks), (2, pairs)):
                if any(mask & goods == goods and not mask & bads for mask in some):
                    self.assertLessEqual(len(told), count, (good, bad, told))

    def test_against_a_search_of_any_number_of_clauses(self):
        search = Search()
        chance = random.Random(16)
        for _ in range(900):
            bases = chance.sample(BASES, chance.choice((1, 2, 3, len(BASES))))
            pool = [base + end for base in bases for end in ENDS]
            some = chance.sample(pool, min(len(pool), chance.randrange(1, 11)))
            count = chance.randrange(min(len(some), 4) + 1)
            good, bad = tuple(some[:count]), tuple(some[count:])
            self.check(good, bad, search.count(good, bad))


class Great(unittest.TestCase):

    def check(self, good, bad, count):
        begun = time.process_time()
        told = telling(good, bad)
        self.assertLess(time.process_time() - begun, 2)
        Reckoned.check_told(self, good, bad, told)
        self.assertEqual(len(told), count, told)

    def test_sixty_numbers_of_twenty_four_figures(self):
        head = ".".join([GREAT] * 59)
        good = tuple(f"{GREAT}!{head}.{number}rc{GREAT}.post{GREAT}.dev{GREAT}" for number in range(0, 40, 2))
        between = tuple(f"{GREAT}!{head}.{number}" for number in range(1, 39, 2))
        self.check(good, between, 19)
        self.check(good, between + (f"{GREAT}!{head}.{GREAT}",), 20)
        self.check(good, between[:5] + (head, "0", f"{GREAT}!{GREAT}"), 6)
        self.check((f"{head}.1", f"{head}.3"), (f"{head}.{GREAT}", f"{head}.2", head), 3)
        self.check((f"{head}.1", f"{head}.3"), (f"{GREAT}!{head}", f"{head}.2", head), 2)
        self.check((f"{head}.1", f"{head}.3"), (head, f"{GREAT}.{GREAT}.1"), 1)

    def test_more_numbers_than_can_be_passed(self):
        before = samples.long_version(60, "9" * 23 + "8")
        behind = samples.long_version(59, "2")
        # The rest of the BLOCK of sixty NUMBERs takes a "~=" of sixty-one.
        self.check((SIXTY, SIXTY + ".post1"), (SIXTY + ".dev0", behind), 1)
        self.check((SIXTY, SIXTY + ".post1"), (before, behind), 1)
        self.check((SIXTY + "rc1", SIXTY + ".post1"), (SIXTY + ".dev7", before, behind, "0"), 1)
        self.check((SIXTY, SIXTY + ".post1"), (SIXTY + ".dev0", SIXTY + ".post2"), 2)

    def test_greater_numbers_than_can_be_passed(self):
        self.assertEqual(telling(("1.1.5", "1.2"), (f"1.1.post{GREAT}", "2")), (("~=", f"1.1.post{BEYOND}"),))
        self.check(("1.1.5", "1.2"), (f"1.1.post{GREAT}", "2", "1"), 1)
        self.check(("1.1.5", "1.2"), (f"1.1.post{GREAT}.dev{GREAT}", "2", "0!1.1"), 1)
        self.check(("1", GREAT), (f"{GREAT}.post0.dev0", "0"), 2)
        self.check(("1", "3", f"{GREAT}.1"), (GREAT, GREAT + ".0.1", "2"), 2)

    def test_twenty_good_and_twenty_bad_ones(self):
        good = tuple(f"1.{number}" for number in range(0, 40, 2))
        bad = tuple(f"1.{number}" for number in range(1, 41, 2))
        self.check(good, bad, 20)
        self.check(bad, good, 20)
        self.check(good, tuple(f"1.{number}rc1" for number in range(0, 40, 2)), 20)
        self.check(good, tuple(f"2.{number}" for number in range(20)), 1)
        self.check(tuple(f"1.post{number}" for number in range(20)),
                   tuple(f"1.post{number}.dev0" for number in range(1, 21)), 20)
        self.check(("1",) * 20, ("2",) * 20, 1)
        self.check((), bad, 1)
        self.check(good, (), 0)


class Refused(unittest.TestCase):

    def refused(self, good, bad):
        for _ in range(2):
            with self.assertRaises(BadQuestion):
                telling(good, bad)

    def test_the_interface(self):
        self.assertEqual(MOST_TOLD, 20)
        self.assertEqual(telling.__module__, "pickedrelease.telling")
        self.assertTrue(issubclass(BadQuestion, PickError))

    def test_twenty_one(self):
        many = tuple(str(number) for number in range(21))
        for some in (many, ("1",) * 21, ("1", "1.0", "0!1") * 7, (None,) * 21):
            self.refused(some, ())
            self.refused((), some)
            self.refused(some, ("100",))
            self.refused(("100",), some)
        self.assertEqual(telling((), many[:20]), (("<", "0"),))

    def test_other_things(self):
        others = [thing for thing in samples.no_strings() if not isinstance(thing, tuple)]
        for thing in others + [["1", "2"], "1", "", "12", {"1": 0, "2": 0}, {"1", "2"}]:
            for other in ((), ("1",), ("1", "2"), None, thing):
                self.refused(thing, other)
                self.refused(other, thing)

    def test_other_things_as_items(self):
        for thing in samples.no_strings() + [("1",)]:
            for some in ((thing,), ("1", thing), (thing, "1"), ("1", "2", thing, "3")):
                self.refused(some, ())
                self.refused((), some)
                self.refused(("2",), some)
                self.refused(some, some)

    def test_wrong_versions(self):
        for version in samples.BAD_VERSIONS + ("1" * 25, samples.long_version(61), BEYOND, "1.post" + BEYOND):
            self.refused((version,), ())
            self.refused((), (version,))
            self.refused(("1", version), ("1",))
            self.refused(("1",), ("1", "2", version))

    def test_a_wrong_one_is_refused_where_there_would_be_none(self):
        self.refused(("1", "x"), ("1",))
        self.refused(("1",), ("1", None))
        self.refused((), (1,))
        self.refused(("1",), ("1",) * 21)

    def test_lists_stay_as_they_are(self):
        good, bad = ["1", "2"], ["3"]
        self.refused(good, ("3",))
        self.refused(("1", "2"), bad)
        self.assertEqual((good, bad), (["1", "2"], ["3"]))

    def test_equal_calls_return_equal_results(self):
        for goods, bads, _ in COUNTS:
            told = telling(versions_of(goods), versions_of(bads))
            self.refused(versions_of(goods), [])
            self.refused(None, versions_of(bads))
            self.assertEqual(telling(versions_of(goods), versions_of(bads)), told)


if __name__ == "__main__":
    unittest.main()
