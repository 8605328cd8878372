"""Points [13] and [14]: FEWEST forms and NEEDLESS CLAUSEs."""

import itertools
import random
import time
import unittest

import samples
from pickedrelease.alike import picks_alike
from pickedrelease.errors import BadRequirement
from pickedrelease.fewest import fewest, needless
from pickedrelease.requirements import MOST_CLAUSES, SIGNS, is_clause, read_requirement

GREAT = 1000000000

# PLAIN VERSIONs and ends of the CLAUSEs of a search, and the BASEs at and about their bounds.
SEARCHES = (
    (("0", "1", "1.0", "1.1"), ("", ".dev0", "a0", ".post0"),
     ("0", "0.0.0.1", "0.5", "1", "1.0.0.1", "1.0.5", "1.1", "1.1.0.1", "1.1.5", "1.5", "2", "2.0.1", "1!0")),
    (("0.0", "0.1", "0.1.0", "0.1.1"), ("", ".dev0", ".dev1"),
     ("0", "0.0.0.1", "0.0.5", "0.1", "0.1.0.1", "0.1.1", "0.1.1.0.1", "0.1.5", "0.2", "0.5", "1", "5", "1!0")),
    (("0", "1", "1!0"), ("", ".dev0", ".dev1", ".post0.dev0", ".post0", "a0.dev0"),
     ("0", "0.0.1", "0.5", "1", "1.0.1", "1.5", "2", "5", "1!0", "1!0.0.1", "1!0.5", "1!1", "2!0")),
)

# Texts of REQUIREMENTs, and of how many CLAUSEs their FEWEST forms are.
COUNTS = (
    # The two examples of the document.
    ("==1.1.*,<=1.1.5", 2), (">=1.0,!=1.0.*", 2), (">=1.1.dev0", 1), (">=1.1.dev0,<=1.1.5", 2),
    # All, nothing, one VERSION with a pin and without.
    ("", 0), (">=0.dev0", 1), ("!=1,==1", 1), ("<0", 1), ("==1,==2", 1), ("<1,>1,!=2", 1), ("==1rc1,>=2", 1),
    ("==1", 1), ("==1,>=0,<=2", 1), (">=1,<=1", 2), (">=1,<=1,!=2,>=0.dev0", 2), ("<=0.dev0", 1),
    ("==0.dev0,<=0.dev0", 1), (">=0.dev1,<=0.dev1", 2), (">=1rc1,<=1rc1", 2), (">=1,<=1.post0.dev0,!=1", 2),
    # A BLOCK, or the rest of one.
    ("~=1.1", 1), (">=1.1,<2", 1), (">=1.1,<2,>=0.dev0", 2), (">=1.1.dev0,<2", 1), ("==1.*,!=1.0.*", 2),
    (">=1.dev0,<2", 1), ("==1.*,>=0.dev0", 1), ("==1.*,>=1.dev0", 1), ("==1.*,!=1.0.*,!=1.1.*", 2),
    ("<1,>=0.dev0", 1), ("<2,>=0.dev0", 2),
    ("==1.*,!=1.2.0.*,!=1.0.*,!=1.1.*", 2), ("==1.*,>=1.2.post0,!=1.2.post0", 2), (">=1.1.5,<1.2,>=0.dev0", 2),
    ("==0.*", 1), ("==0.*,!=0.0.*", 2), ("~=0.1,!=0.1.*", 2), (">=1.4.2,==1.4.*", 1), (">=1.4.2,<2", 2),
    ("==1.1.*,!=1.1.0.*", 2), ("==1.1.*,!=1.1.dev0", 2), ("==1.1.*,!=1.1.dev0,!=1.1.dev1", 3),
    ("==1.1.*,>=1.1.dev2", 1), ("==1.1.*,>=1.1.0.1.dev2", 2), ("==1!0.*", 1), (">=1!0.dev0", 1), (">=1!0.dev0,<1!1", 1),
    ("~=1.2,!=1.2.0.*", 2), ("~=1.2.post0,!=1.2.post0", 2), ("~=1.2,!=1.2.0.*,!=1.2.1.dev0", 3),
    ("~=1!1.2,!=1!1.2.*", 2),
    # Bounds, and with a NAME beside them.
    (">=1.1,<1.3", 2), (">=1.1,<1.3,>=0.dev0", 3), (">1", 1), (">1,<1.1", 2), (">1,>=0.dev0", 2), (">1,<2,>=0.dev0", 2),
    (">1!1,<1!2,>=0.dev0", 2), (">1!1,<1!3,>=0.dev0", 3), (">=1!1.0.post0,==1!1.*,>=0.dev0", 2),
    (">=1.1.1,<2,>=0.dev0", 2), (">=1.1.1,<3,>=0.dev0", 3), ("<1", 1), ("<=1,!=1", 2), ("<=1,!=1.*", 1),
    ("<=1,!=1,>=0.dev0", 3), ("<=1rc1,!=1rc1", 2), ("<=1,!=1rc1", 2), ("<=2,!=2,!=1.*", 3), ("<=1.dev3,!=1.dev3", 1),
    (">=1.dev3,!=1.dev3", 1), (">=1.post0,!=1.post0", 2), (">=1.post0,!=1.post0,>=0.dev0", 1), (">=1,!=1", 2),
    (">=1,!=1,>=0.dev0", 1), ("<=1.post0,!=1.post0", 2), ("<=1.post0.dev0,!=1.post0.dev0", 2), ("<=1,>=0.dev0", 2),
    ("<=0,>=0.dev0", 1), (">=1rc1,<=1", 2), (">=1rc1,<=1,>=0.dev0,!=2", 2),
    # Gaps that BLOCKs fill, and that single VERSIONs fill.
    ("!=0.*", 1), ("!=0.*,!=1.*", 2), ("!=0.*,!=1.*,!=2.*", 2), ("!=0.*,!=1.*,>=0.dev0", 1), ("!=1,!=1.*", 1),
    ("!=1.0.*,!=1.1.*,!=1.2", 3), ("!=1.4.1.*,!=1.4.*,!=1.4.2", 1), ("!=1,!=1.post0.dev0", 2),
    ("!=1,!=1.post0.dev0,!=1.post0.dev1,!=2,!=2", 4), (">=1,!=1.2.*,!=1.3.*,!=1.4.*,<1.5,!=1.4.0.1", 2),
    (">=1,<2,!=1.2.*,!=1.3.*,!=1.4.*", 4), ("~=1.0,!=1.2,!=1.2.1", 3), ("!=1.2.*,!=1.3.*,<1.4,>=1.2", 1),
    ("!=1.2.*,!=1.3.*,<1.4,>=1.1", 1), ("!=1.2.*,!=1.3.*,<1.4,>=1.0.1", 2), ("!=0.dev0", 1), ("!=0.dev0,!=0.dev1", 2),
    ("!=0.dev0,!=0.dev1,>=0.dev0", 1), ("!=0.0.0.*,!=0.0.1.*", 2), ("!=0.0.0.*,!=0.0.1.*,!=0.0.2.*", 2),
    ("!=1!0.*", 1), ("<1!0,!=0.*", 2),
    (">=1,<3,!=1.5.*,!=2.0.*,!=2.1", 5), ("!=1.*,!=2.*,!=3.*,>=0.dev0", 4),
)


class Reckoned(unittest.TestCase):

    def check_told(self, universe, clauses, told):
        """Check that a told form has the form of a REQUIREMENT and PICKS ALIKE, and that each CLAUSE is needed."""
        self.assertIsInstance(told, tuple)
        for clause in told:
            self.assertIsInstance(clause, tuple)
            sign, text = clause
            self.assertIn(sign, SIGNS)
            self.assertIsInstance(text, str)
        picks = universe.picks(clauses)
        self.assertEqual(universe.picks(told), picks, (clauses, told))
        self.assertLessEqual(len(told), len(clauses))
        for at in range(len(told)):
            self.assertNotEqual(universe.picks(told[:at] + told[at + 1:]), picks, (clauses, told))
        if len(told) <= MOST_CLAUSES and all(is_clause(clause) for clause in told):
            self.assertIs(picks_alike(clauses, told), True, (clauses, told))
            self.assertEqual(len(fewest(told)), len(told), (clauses, told))
            self.assertEqual(needless(told), ())

    def search(self, universe, clauses, most):
        """For each way to pick a REQUIREMENT with as few of some CLAUSEs as can be."""
        found = {}
        for count in range(most + 1):
            for thing in itertools.combinations(clauses, count):
                found.setdefault(universe.picks(thing), thing)
        return found

    def test_against_a_search_of_two_clauses(self):
        for plain, ends, bases in SEARCHES:
            universe = samples.Universe(bases)
            found = self.search(universe, samples.clauses_of(plain, ends), 2)
            for thing in found.values():
                told = fewest(thing)
                self.assertLessEqual(len(told), len(thing), (thing, told))
                self.check_told(universe, thing, told)

    def test_requirements_that_pick_alike_have_as_few(self):
        for plain, ends, bases in SEARCHES:
            universe = samples.Universe(bases)
            clauses = samples.clauses_of(plain, ends)
            found = self.search(universe, clauses, 2)
            chance = random.Random(13)
            for _ in range(300):
                thing = tuple(chance.choices(clauses, k=chance.randrange(3, 7)))
                told = fewest(thing)
                self.check_told(universe, thing, told)
                shorter = found.get(universe.picks(thing))
                if shorter is not None:
                    self.assertEqual(len(told), len(fewest(shorter)), (thing, told, shorter))

    def test_needless_against_the_words_of_the_point(self):
        for plain, ends, bases in SEARCHES:
            universe = samples.Universe(bases)
            clauses = samples.clauses_of(plain, ends)
            chance = random.Random(14)
            for _ in range(400):
                thing = tuple(chance.choices(clauses, k=chance.randrange(6)))
                picks = universe.picks(thing)
                wanted = tuple(at for at in range(len(thing)) if universe.picks(thing[:at] + thing[at + 1:]) == picks)
                self.assertEqual(needless(thing), wanted, thing)


class ByHand(unittest.TestCase):

    def test_functions_are_defined_in_their_file(self):
        for call in (fewest, needless):
            self.assertEqual(call.__module__, "pickedrelease.fewest")

    def test_counts(self):
        for text, count in COUNTS:
            thing = read_requirement(text)
            told = fewest(thing)
            self.assertEqual(len(told), count, (text, told))
            for mixed in (thing[::-1], thing + thing[:1], thing[1:] + thing):
                self.assertEqual(len(fewest(mixed)), count, mixed)
            if all(is_clause(clause) for clause in told):
                self.assertIs(picks_alike(thing, told), True, (text, told))

    def test_pins_stay_and_none_comes_in(self):
        self.assertEqual([sign for sign, _ in fewest((("==", "1.0"), ("!=", "2")))], ["=="])
        self.assertNotIn("==", [sign for sign, _ in fewest(((">=", "1.0"), ("<=", "1")))])
        self.assertNotIn("==", [sign for sign, _ in fewest((("<=", "0.dev0"), ("!=", "2")))])

    def test_needless(self):
        for text, told in (
                ("", ()), (">=0.dev0", ()), (">=1", ()), (">=1,>=1", (0, 1)), (">=1,>=1.0,>=0", (0, 1, 2)),
                (">=1,>=0", (1,)),
                # A pin that is needed only to PIN.
                ("==1,>=0", (1,)), ("==1,<=1,>=1", (1, 2)), ("==1,==1.0", (0, 1)), ("<=1,==1.0,>=1,==1", (0, 1, 2, 3)),
                ("==1,!=2,==1.*", (1, 2)), ("<=0.dev0,==0.dev0", (0,)),
                # A CLAUSE that is needed only to NAME, or is felt by none.
                (">=0.dev0,>=1", ()), (">=0.dev0,>=1rc1", (0,)), (">=0.dev0,<=0", (0,)), (">=0.dev0,>=0.dev0", (0, 1)),
                (">=1,<=1,>=0.dev0", (2,)), ("~=1.0.dev0,==1.*", (1,)), ("~=1.0.dev0,>=1.1,<2", (2,)),
                (">=0.dev0,<=3.dev0,==1.*", (0, 1)), (">=0.dev0,==1.*", ()), ("!=1rc1,>=0.dev0", ()),
                # What lets in nothing.
                ("<0,<1", (1,)), ("<0,==1", (1,)), ("==1,==2", ()), ("==1,==2,==3", (0, 1, 2)), ("<1,>1", ()),
                ("<0,>=0.dev0", (1,)), ("<1,>1,<2,>2", (0, 1, 2, 3)), ("==1,!=1,<0", (0, 1, 2)), ("==1,!=1", ()),
                # BLOCKs.
                ("!=1,!=1.*", (0,)), (">=1.0,!=1.0.*,!=0", (2,)), ("~=1.4,<2", (1,)), (">=1,<2,==1.*", (1, 2)),
                ("!=1.4.*,!=1.*,!=1.4.0.*", (0, 2)), ("==1.*,!=2.*,!=1.0.*", (1,)), (">=1.1,!=1.0.*,!=1.1.*", (1,))):
            self.assertEqual(needless(read_requirement(text)), told, text)

    def test_equal_calls_return_equal_results(self):
        for text, _ in COUNTS:
            self.assertEqual(fewest(read_requirement(text)), fewest(read_requirement(text)))
            self.assertEqual(needless(read_requirement(text)), needless(read_requirement(text)))


class Great(unittest.TestCase):

    def check_count(self, thing, count, bases, more=()):
        begun = time.process_time()
        told = fewest(thing)
        self.assertLess(time.process_time() - begun, 2)
        self.assertEqual(len(told), count, told)
        Reckoned.check_told(self, samples.Universe(bases, more), thing, told)

    def test_twelve_blocks_of_eight_numbers(self):
        head = f"{GREAT}!" + ".".join([str(GREAT)] * 7)
        last = [GREAT - step for step in range(10)]
        bases = [f"{head}.{number}{tail}" for number in last + [GREAT - 10, GREAT + 1, 0, 5]
                 for tail in ("", ".0.1", ".1")]
        bases += ["0", "1", head, head + ".0.1", f"{GREAT + 1}!0"]
        # Blocks side by side at the end: the end of what is let in.
        thing = ((">=", head), ("<=", f"{head}.{GREAT}")) + tuple(("!=", f"{head}.{number}.*") for number in last)
        self.check_count(thing, 2, bases)
        # Blocks with gaps between them.
        thing = ((">=", head), ("<=", f"{head}.{GREAT}")) + tuple(("!=", f"{head}.{number}.*") for number in last[1::2])
        self.check_count(thing + (("!=", "0"),) * 5, 7, bases)
        # Blocks that are all needed, as nothing else says where to begin.
        thing = tuple(("!=", f"{head}.{number}.*") for number in last[1::2] + last[2::2]) + (("!=", "0"), ("!=", "1.*"))
        self.check_count(thing, len(thing), bases)

    def test_twelve_versions(self):
        numbers = range(GREAT - 11, GREAT + 1)
        more = [f"1.post0.dev{number}" for number in range(GREAT - 13, GREAT + 2)]
        thing = tuple(("!=", f"1.post0.dev{number}") for number in numbers)
        self.check_count(thing, 12, ["1", "2"], more)
        self.check_count(thing[::-1][1:] + ((">=", f"1.post0.dev{GREAT - 11}"),), 1, ["1", "2"], more)
        self.check_count(thing[1:] + (("<=", f"1.post0.dev{GREAT}"),), 1, ["1", "2"], more)
        self.check_count(thing[:5] + thing[6:] + (("<=", f"1.post0.dev{GREAT}"),), 6, ["1", "2"], more)

    def test_what_is_far_from_a_final_one(self):
        # No few CLAUSEs lead from a FINAL one to here.
        more = [f"{head}{number}" for head in ("1.dev", "1.post0.dev", f"{GREAT}!0.dev", "1rc")
                for number in range(GREAT - 1, GREAT + 2)]
        for text, count in ((f">=1.dev{GREAT}", 1), (f">=1.post0.dev{GREAT},<=2", 2),
                            (f">=1.dev{GREAT},<=1.dev{GREAT}", 2),
                            (f">={GREAT}!0.dev{GREAT},!={GREAT}!0.dev{GREAT}", 1),
                            (f"<=1.dev{GREAT},!=1.dev{GREAT}", 1), (f"==1.*,>=1.dev{GREAT}", 1),
                            (f"!=1.dev{GREAT}", 1), (f"<=1rc{GREAT},!=1rc{GREAT}", 2)):
            self.check_count(read_requirement(text), count, ["0", "1", "2", "3", f"{GREAT}!0", f"{GREAT}!1"], more)

    def test_many_requirements_in_reasonable_time(self):
        chance = random.Random(15)
        begun = time.process_time()
        for _ in range(60):
            numbers = [chance.choice((0, 1, GREAT)) for _ in range(8)]
            clauses = []
            for _ in range(12):
                text = ".".join(str(number) for number in numbers[:chance.randrange(2, 9)])
                clauses.append((chance.choice(("!=", "!=", "==", ">=", "~=", "<=")), text))
            fewest(tuple(clauses))
            needless(tuple(clauses))
        self.assertLess(time.process_time() - begun, 10)


class Refused(unittest.TestCase):

    def refused(self, place, call, *arguments):
        for _ in range(2):
            with self.assertRaises(BadRequirement) as caught:
                call(*arguments)
            self.assertEqual(caught.exception.place, place)

    def test_wrong_requirements(self):
        wrong = ((None, ()), ([], ()), ("", ()), (((">=", "01"),), (0,)), (((">=", "1"), None), (1,)),
                 (((">=", "1"),) * 13, ()), ((("==", "1.0.0.0.0.0.0.0.0"),), (0,)), (((">=", "1000000001"),), (0,)),
                 ((("==", "1"), ("==", "2"), ("<", "1rc1")), (2,)))
        wrong += tuple((thing, (0,) if isinstance(thing, tuple) else ()) for thing in samples.no_strings())
        for thing, place in wrong:
            self.refused(place, fewest, thing)
            self.refused(place, needless, thing)

    def test_a_refused_call_changes_no_later_answer(self):
        thing = ((">=", "1.0"), ("!=", "1.0.*"), ("!=", "0"))
        told = fewest(thing), needless(thing)
        for wrong in (None, thing + (None,), thing * 5):
            for call in (fewest, needless):
                with self.assertRaises(BadRequirement):
                    call(wrong)
            self.assertEqual((fewest(thing), needless(thing)), told)


if __name__ == "__main__":
    unittest.main()
