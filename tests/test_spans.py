"""Points [6] and [8]: which VERSIONs are let in, told as SPANs."""

import itertools
import unittest

import samples
from pickedrelease.errors import BadRequirement, BadVersion
from pickedrelease.requirements import read_requirement
from pickedrelease.spans import is_within, lets_in, lets_nothing, same_set, spans
from pickedrelease.versions import is_version, order, plainest

ALL = (("from", "0.dev0"), None)
GREAT = "1000000000"


def from_on(low, high=None):
    """A SPAN from a VERSION on."""
    return (("from", low), high and ("below", high))


def after(low, high=None):
    """A SPAN behind all VERSIONs of a BASE."""
    return (("after", low), high and ("below", high))


def below(high):
    """A SPAN from the least VERSION on."""
    return from_on("0.dev0", high)


# Texts of REQUIREMENTs, and the SPANs that point [6] gives by hand.
TOLD = {
    "": (ALL,),
    # Each SIGN alone.
    ">=1.0": (from_on("1"),),
    ">=1.0a1": (from_on("1a1"),),
    ">=0.dev0": (ALL,),
    ">=0!0.0.dev0": (ALL,),
    ">=1!1.0.post1.dev2": (from_on("1!1.post1.dev2"),),
    "<=2": (below("2.post0.dev0"),),
    "<=2.0.post1": (below("2.post2.dev0"),),
    "<=2.0a1": (below("2a1.post0.dev0"),),
    "<=2.0.dev3": (below("2.dev4"),),
    "<=0.dev0": (below("0.dev1"),),
    "==1.0": (from_on("1", "1.post0.dev0"),),
    "==1.dev0": (from_on("1.dev0", "1.dev1"),),
    "==1rc1.post1": (from_on("1rc1.post1", "1rc1.post2.dev0"),),
    "==0.dev0": (from_on("0.dev0", "0.dev1"),),
    "!=1.0": (below("1"), from_on("1.post0.dev0")),
    "!=1.0b2.dev1": (below("1b2.dev1"), from_on("1b2.dev2")),
    "!=0.dev0": (from_on("0.dev1"),),
    "!=0.0.dev1": (below("0.dev1"), from_on("0.dev2")),
    "<1.0": (below("1.dev0"),),
    "<1!0": (below("1!0.dev0"),),
    ">1.0": (after("1"),),
    ">0": (after("0"),),
    ">0!1.2.0": (after("1.2"),),
    ">1!0.0": (after("1!0"),),
    "==1.4.*": (from_on("1.4.dev0", "1.5.dev0"),),
    "==1.0.*": (from_on("1.dev0", "1.1.dev0"),),
    "==1.0.0.*": (from_on("1.dev0", "1.0.1.dev0"),),
    "==1.*": (from_on("1.dev0", "2.dev0"),),
    "==0.*": (below("1.dev0"),),
    "==0.0.*": (below("0.1.dev0"),),
    "==1.9.*": (from_on("1.9.dev0", "1.10.dev0"),),
    "==2!3.*": (from_on("2!3.dev0", "2!4.dev0"),),
    "==1!0.0.*": (from_on("1!0.dev0", "1!0.1.dev0"),),
    "!=1.4.*": (below("1.4.dev0"), from_on("1.5.dev0")),
    "!=1.0.*": (below("1.dev0"), from_on("1.1.dev0")),
    "!=0.*": (from_on("1.dev0"),),
    "!=0.0.*": (from_on("0.1.dev0"),),
    "!=1!0.*": (below("1!0.dev0"), from_on("1!1.dev0")),
    "~=1.4": (from_on("1.4", "2.dev0"),),
    "~=1.4.0": (from_on("1.4", "1.5.dev0"),),
    "~=1.4.5": (from_on("1.4.5", "1.5.dev0"),),
    "~=1.4rc1": (from_on("1.4rc1", "2.dev0"),),
    "~=1.4.5.post1.dev2": (from_on("1.4.5.post1.dev2", "1.5.dev0"),),
    "~=1.0.0.dev0": (from_on("1.dev0", "1.1.dev0"),),
    "~=0.0": (from_on("0", "1.dev0"),),
    "~=3!1.0": (from_on("3!1", "3!2.dev0"),),
    # The examples of points [6] to [8], and bounds together.
    ">1.2,!=1.4.*,<=2": (after("1.2", "1.4.dev0"), from_on("1.5.dev0", "2.post0.dev0")),
    ">=1.0,!=1.3.*": (from_on("1", "1.3.dev0"), from_on("1.4.dev0")),
    ">=1.0,<2": (from_on("1", "2.dev0"),),
    ">=1.0,>1.0,>=1.0.post5": (after("1"),),
    ">1,>=1.0.0.1.dev0": (from_on("1.0.0.1.dev0"),),
    ">1,<=1.0.0.1.dev0": (after("1", "1.0.0.1.dev1"),),
    ">1,<1.0.0.1": (after("1", "1.0.0.1.dev0"),),
    ">1,>=1!0.dev0": (from_on("1!0.dev0"),),
    ">1,>1.0.0.1,>0.9": (after("1.0.0.1"),),
    "<2,<=2.dev0,<1.9.9": (below("1.9.9.dev0"),),
    "<=2.dev0,<=2": (below("2.dev1"),),
    "==1.1.*,<=1.1.5": (from_on("1.1.dev0", "1.1.5.post0.dev0"),),
    ">=1.0,!=1.0.*": (from_on("1.1.dev0"),),
    "<=1.0,!=1.0.*": (below("1.dev0"),),
    ">1,!=1.0.*": (from_on("1.1.dev0"),),
    "==1.*,==1.4.*,==1.4.2.*": (from_on("1.4.2.dev0", "1.4.3.dev0"),),
    "~=1.4,~=1.4.2": (from_on("1.4.2", "1.5.dev0"),),
    "==1.0,==1": (from_on("1", "1.post0.dev0"),),
    ">=1.0,<=1": (from_on("1", "1.post0.dev0"),),
    # What is left out: neighbours become one gap, what is within a BLOCK is in its gap.
    "!=1,!=1.post0.dev0": (below("1"), from_on("1.post0.dev1")),
    "!=1.post0.dev0,!=1.0": (below("1"), from_on("1.post0.dev1")),
    "!=1.dev0,!=1.dev1,!=1.dev2": (below("1.dev0"), from_on("1.dev3")),
    "!=1.dev0,!=1.dev2": (below("1.dev0"), from_on("1.dev1", "1.dev2"), from_on("1.dev3")),
    "!=1.4.*,!=1.5.*": (below("1.4.dev0"), from_on("1.6.dev0")),
    "!=1.5.*,!=1.4.*,!=1.4": (below("1.4.dev0"), from_on("1.6.dev0")),
    "!=1.*,!=1.4.*": (below("1.dev0"), from_on("2.dev0")),
    "!=1.4.*,!=1.*": (below("1.dev0"), from_on("2.dev0")),
    "!=1.4.*,!=1.6.*": (below("1.4.dev0"), from_on("1.5.dev0", "1.6.dev0"), from_on("1.7.dev0")),
    "!=0.*,!=1.*": (from_on("2.dev0"),),
    "!=0.dev0,!=0.dev1": (from_on("0.dev2"),),
    "!=1.4.*,!=1.5.dev0": (below("1.4.dev0"), from_on("1.5.dev1")),
    "==1.4.*,!=1.4": (from_on("1.4.dev0", "1.4"), from_on("1.4.post0.dev0", "1.5.dev0")),
    "==1.4.*,!=1.4.0.*": (from_on("1.4.1.dev0", "1.5.dev0"),),
    "==1.*,!=1.4.*,!=1.4.2": (from_on("1.dev0", "1.4.dev0"), from_on("1.5.dev0", "2.dev0")),
    ">1,!=1,!=1.post5": (after("1"),),
    ">1,!=1.0.1": (after("1", "1.0.1"), from_on("1.0.1.post0.dev0")),
    ">=1.9,<2,!=1.9.*": (from_on("1.10.dev0", "2.dev0"),),
    # Nothing is let in.
    "<0": (),
    "<0.0": (),
    "==1,==2": (),
    "==1,!=1.0": (),
    ">1,<1": (),
    ">1.0,==1.0": (),
    ">1,<=1.post9": (),
    ">=2,<=1": (),
    ">=1.post0.dev0,<=1": (),
    "==1.4.*,==1.5.*": (),
    "==1.4.*,!=1.*": (),
    "~=1.4,>=2.dev0": (),
    "~=1.4,<1.4": (),
    "==1!1.*,==1.*": (),
    "!=0.*,<1": (),
    "<=0.dev0,!=0.dev0": (),
}

EMPTY = [text for text, told in TOLD.items() if told == ()]

# CLAUSEs whose VERSIONs are in the row of samples, written in several ways.
ROW_CLAUSES = tuple(
    [(sign, text) for sign in (">=", "<=", "==", "!=") for text in (
        "0.dev0", "0!0.0.dev1", "0", "0.0.1", "1.0.dev0", "1a0.dev0", "1.0rc0", "1.0", "0!1", "1.0.0.post0.dev0",
        "1.post0", "1.0.1", "1.1b0", "1.1.0", "2.post1", "1!0.0", "1!1.0a0")]
    + [(sign, text) for sign in ("<", ">") for text in (
        "0", "0.0", "0.1.0", "1", "1.0", "1.0.1", "1.1", "2.0", "1!0", "1!1.0")]
    + [(sign, text + ".*") for sign in ("==", "!=") for text in (
        "0", "0.0", "0.0.0", "0.0.1", "1", "1.0", "1.0.0", "1.0.1", "1.1", "1.1.0", "1.2", "2", "2.0", "1!0", "1!0.0",
        "1!1")]
    + [("~=", text) for text in (
        "0.0", "0.0.0", "0.0.1", "1.0", "1.0.0", "1.0.1", "1.1", "1.1.0", "1.1b0", "1.0.post0", "1.0.dev1", "1!0.0",
        "1!1.0", "1.0.0.0rc0.post0.dev0")])

FEW_CLAUSES = (
    (">=", "1.0"), (">=", "1a0.post0"), ("<=", "1.1"), ("<=", "1.post0"), ("==", "1.0"), ("!=", "1"),
    ("!=", "1.post0.dev0"), ("!=", "0.dev0"), ("<", "1.1"), (">", "1"), (">", "0"), ("==", "1.*"), ("==", "1.0.*"),
    ("!=", "1.0.*"), ("!=", "1.1.*"), ("!=", "0.*"), ("~=", "1.0"), ("~=", "1.0.1"), (">", "1.0.1"), ("<", "1!0"),
)

WRONG = (None, [], ((">=", "01"),), ((">=", "1"), None), ((">=", "1"),) * 13, "")
PLACES = ((), (), (0,), (1,), (), ())


def in_spans(told, version):
    """Whether a VERSION is in one of these SPANs, by the words of point [8]."""
    for (kind, low), high in told:
        if kind == "from":
            is_up = order(version, low) >= 0
        else:
            # Greater than all of a BASE: greater, and with another BASE.
            is_up = order(version, low) > 0 and base_of(version) != base_of(low)
        if is_up and (high is None or order(version, high[1]) < 0):
            return True
    return False


def base_of(version):
    """The EPOCH and the NUMBERs of a VERSION without the 0s at the end."""
    return samples.split(plainest(version))[:2]


def letting_in(requirement):
    """The VERSIONs of the row that each CLAUSE lets in."""
    return [version for version in samples.SOME
            if all(samples.clause_lets_in(clause, version) for clause in requirement)]


class Told(unittest.TestCase):

    def test_spans_by_hand(self):
        for text, told in TOLD.items():
            self.assertEqual(spans(read_requirement(text)), told, text)

    def test_the_example_of_the_document(self):
        self.assertEqual(spans(((">", "1.2"), ("!=", "1.4.*"), ("<=", "2"))),
                         ((("after", "1.2"), ("below", "1.4.dev0")), (("from", "1.5.dev0"), ("below", "2.post0.dev0"))))

    def test_the_order_of_clauses_does_not_matter(self):
        for text, told in TOLD.items():
            clauses = read_requirement(text)
            for mixed in itertools.permutations(clauses):
                self.assertEqual(spans(mixed), told, mixed)
            self.assertEqual(spans(clauses + clauses), told, text)

    def test_the_examples_of_blocks(self):
        for version in ("1.4", "1.4rc1", "1.4.0.post1", "1.4.2", "1.4.dev0", "1.4.0.0.1"):
            self.assertIs(lets_in((("==", "1.4.*"),), version), True)
            self.assertIs(lets_in((("!=", "1.4.*"),), version), False)
        for version in ("1", "1.0.3", "1.0", "1.dev0", "1.post3"):
            self.assertIs(lets_in((("==", "1.0.*"),), version), True)
        for version in ("1.40", "1.5.dev0", "1.3.9", "14", "1!1.4", "1", "0.1.4"):
            self.assertIs(lets_in((("==", "1.4.*"),), version), False)
            self.assertIs(lets_in((("!=", "1.4.*"),), version), True)

    def test_nothing_between_the_rows_is_lost(self):
        # What is greater than all of a BASE begins nearer to it than any VERSION.
        thing = ((">", "1"), ("<", "1.0.1"))
        self.assertIs(lets_in(thing, "1." + "0." * 58 + "1.dev0"), True)
        self.assertIs(lets_in(thing, "1.post" + "9" * 24), False)
        self.assertIs(lets_in(thing, "1.0.0." + "9" * 24), True)

    def test_versions_of_any_passed_size(self):
        big = "9" * 24
        self.assertIs(lets_in(((">=", "1"),), f"{big}!{big}"), True)
        self.assertIs(lets_in((("<", "1"),), f"{big}!0"), False)
        self.assertIs(lets_in((("==", "1.*"),), "1." + "0." * 58 + big), True)
        self.assertIs(lets_in((("==", "1.0"),), "1." + "0." * 58 + "0"), True)


class Against(unittest.TestCase):

    def check_form(self, told):
        """Check that SPANs have the form that point [8] tells."""
        self.assertIsInstance(told, tuple)
        for span in told:
            (kind, low), high = span
            self.assertIn(kind, ("from", "after"))
            self.assertEqual(plainest(low), low)
            if kind == "after":
                self.assertEqual(samples.split(low)[2], "")
            if high is not None:
                word, text = high
                self.assertEqual((word, plainest(text)), ("below", text))
                self.assertEqual(order(low, text), -1)
                if kind == "after":
                    self.assertNotEqual(base_of(low), base_of(text))
        for (_, high), ((kind, low), _) in zip(told, told[1:]):
            self.assertIsNotNone(high)
            self.assertTrue(order(high[1], low) < 0 or kind == "after" and base_of(high[1]) == base_of(low))

    def test_each_clause_alone(self):
        for clause in ROW_CLAUSES:
            told = spans((clause,))
            self.check_form(told)
            for version in samples.SOME:
                wanted = samples.clause_lets_in(clause, version)
                self.assertIs(lets_in((clause,), version), wanted, (clause, version))
                self.assertIs(in_spans(told, version), wanted, (clause, version))

    def test_two_and_three_clauses(self):
        pairs = list(itertools.combinations(FEW_CLAUSES, 2)) + list(itertools.combinations(FEW_CLAUSES[::2], 3))
        versions = samples.SOME[::3]
        for thing in pairs:
            told = spans(thing)
            self.check_form(told)
            for version in versions:
                wanted = all(samples.clause_lets_in(clause, version) for clause in thing)
                self.assertIs(lets_in(thing, version), wanted, (thing, version))
                self.assertIs(in_spans(told, version), wanted, (thing, version))

    def test_many_clauses(self):
        for at in range(0, len(ROW_CLAUSES), 5):
            thing = tuple(ROW_CLAUSES[(at + 7 * step) % len(ROW_CLAUSES)] for step in range(12))
            self.check_form(spans(thing))
            inside = letting_in(thing)
            self.assertEqual([version for version in samples.SOME if lets_in(thing, version)], inside)

    def test_sets_against_each_other(self):
        things = [()] + [(clause,) for clause in FEW_CLAUSES] + list(itertools.combinations(FEW_CLAUSES[::3], 2))
        told = [spans(thing) for thing in things]
        rows = [letting_in(thing) for thing in things]
        for here, one in enumerate(things):
            self.assertIs(lets_nothing(one), told[here] == ())
            for there, other in enumerate(things):
                self.assertIs(same_set(one, other), told[here] == told[there], (one, other))
                self.assertIs(is_within(one, other), spans(one + other) == told[here], (one, other))
                if is_within(one, other):
                    self.assertEqual([version for version in rows[here] if version not in rows[there]], [])
                if same_set(one, other):
                    self.assertEqual(rows[here], rows[there])


class Sets(unittest.TestCase):

    def same(self, one, other, wanted):
        one, other = read_requirement(one), read_requirement(other)
        self.assertIs(same_set(one, other), wanted, (one, other))
        self.assertIs(same_set(other, one), wanted, (other, one))
        if wanted:
            self.within(one, other, True)
            self.within(other, one, True)

    def within(self, one, other, wanted):
        self.assertIs(is_within(one, other), wanted, (one, other))

    def test_the_same_versions(self):
        for one, other in ((">=1.0", ">=0!1"), ("", ">=0.dev0"), ("==1.0.*", ">=1.dev0,<1.1"), ("~=1.4", ">=1.4,==1.*"),
                           ("~=1.4.0", ">=1.4,<1.5"), ("<1", "<=1.0,!=1.*"), ("==1", ">=1.0,<=1.0.0"),
                           ("!=0.*", ">=1.dev0"), (">1,!=1.0.*", ">=1.1.dev0"), ("<=1.dev0", "<=1.dev1,!=1.dev1"),
                           (">1", ">1.0,!=1.post1"), ("==1.4.*,==1.*", "==1.4.*")):
            self.same(one, other, True)

    def test_not_the_same_versions(self):
        for one, other in ((">=1.0", ">1.0"), ("", ">=0.dev1"), ("==1.0.*", "==1.*"), ("~=1.4", "~=1.4.0"),
                           ("<1", "<=1"), ("!=1", ""), ("<1", "<=1.dev0"), (">1", ">=1.post0.dev0"),
                           (">1", ">=1.0.0.0.0.0.0.1.dev0"), (">=1", ">=1!1"), ("==1.4.*", "<0")):
            self.same(one, other, False)

    def test_within(self):
        for one, other in (("==1.0", ">=1"), ("==1.4.*", "==1.*"), ("~=1.4.2", "~=1.4"), (">=2", ">1"), ("", ""),
                           ("<1", ""), ("==1.4,!=1.4", "==2"), ("!=1.*", "!=1.4.*"), ("!=1.*", "!=1.4"), (">1", ">=1"),
                           ("==1.dev0", "<=1.dev0"), ("<1", "<=1.dev0"), ("<0", ""), ("<0", "<0"), (">1", "!=1.post1")):
            self.within(read_requirement(one), read_requirement(other), True)
        for one, other in ((">=1", "==1.0"), ("==1.*", "==1.4.*"), ("~=1.4", "~=1.4.2"), (">1", ">=2"), ("", "<1"),
                           ("==2", "==1.4,!=1.4"), ("!=1.4.*", "!=1.*"), (">=1", ">1"), (">=1", "!=1.0.1,>=1"),
                           ("", "<0"), ("<2", ">1"), ("==1", "==2")):
            self.within(read_requirement(one), read_requirement(other), False)

    def test_nothing(self):
        for text, told in TOLD.items():
            self.assertIs(lets_nothing(read_requirement(text)), told == (), text)
        self.assertIs(lets_nothing(()), False)
        self.assertIs(lets_nothing(((">", "1"), ("<", "1.0.0.0.0.0.0.1"))), False)

    def test_all_that_let_in_nothing_are_the_same(self):
        for one in EMPTY:
            for other in EMPTY:
                self.same(one, other, True)
            self.same(one, "", False)
            self.within(read_requirement(one), (), True)
            self.within((), read_requirement(one), False)


class Great(unittest.TestCase):

    def test_great_numbers(self):
        one_more = "1000000001"
        long = ".".join([GREAT] * 8)
        shorter = ".".join([GREAT] * 7)
        self.assertEqual(spans((("==", long + ".*"),)), (from_on(long + ".dev0", f"{shorter}.{one_more}.dev0"),))
        self.assertEqual(spans((("~=", f"{GREAT}!{long}"),)),
                         (from_on(f"{GREAT}!{long}", f"{GREAT}!" + ".".join([GREAT] * 6) + f".{one_more}.dev0"),))
        self.assertEqual(spans((("<=", f"{long}.dev{GREAT}"),)), (below(f"{long}.dev{one_more}"),))
        self.assertEqual(spans((("!=", f"{long}.post{GREAT}"),)),
                         (below(f"{long}.post{GREAT}"), from_on(f"{long}.post{one_more}.dev0")))
        self.assertEqual(spans(((">", f"{GREAT}!{long}"),)), (after(f"{GREAT}!{long}"),))

    def test_twelve_clauses_of_great_numbers(self):
        head = f"{GREAT}!" + ".".join([GREAT] * 7)
        numbers = [1000000000 - 2 * step for step in range(10)]
        thing = ((">=", f"{head}.0"), ("<", f"{head}.{GREAT}"))
        thing += tuple(("!=", f"{head}.{number}.*") for number in numbers)
        told = spans(thing)
        self.assertEqual(len(told), 10)
        self.assertEqual(told[0], from_on(head, f"{head}.{numbers[-1]}.dev0"))
        self.assertEqual(told[-1], from_on(f"{head}.{numbers[1] + 1}.dev0", f"{head}.{GREAT}.dev0"))
        self.assertTrue(all(is_version(low[1]) and is_version(high[1]) for low, high in told))
        for number in numbers:
            self.assertIs(lets_in(thing, f"{head}.{number}.0.1"), False)
            self.assertIs(lets_in(thing, f"{head}.{number - 1}rc{'9' * 24}"), True)
        self.assertIs(lets_nothing(thing), False)

    def test_twelve_versions_left_out(self):
        thing = tuple(("!=", f"{GREAT}.dev{1000000000 - step}") for step in range(12))
        self.assertEqual(spans(thing), (below(f"{GREAT}.dev999999989"), from_on(f"{GREAT}.dev1000000001")))


class Refused(unittest.TestCase):

    def refused(self, place, call, *arguments):
        for _ in range(2):
            with self.assertRaises(BadRequirement) as caught:
                call(*arguments)
            self.assertEqual(caught.exception.place, place)

    def test_functions_are_defined_in_their_file(self):
        for call in (spans, lets_in, same_set, is_within, lets_nothing):
            self.assertEqual(call.__module__, "pickedrelease.spans")

    def test_what_is_no_requirement(self):
        for thing, place in zip(WRONG, PLACES):
            self.refused(place, spans, thing)
            self.refused(place, lets_nothing, thing)
            self.refused(place, lets_in, thing, "1")
            for call in (same_set, is_within):
                self.refused(place, call, thing, ())
                self.refused(place, call, (), thing)
                # An empty set is within all others, but the second argument is still looked at.
                self.refused(place, call, (("<", "0"),), thing)

    def test_other_values(self):
        for thing in samples.no_strings():
            place = (0,) if isinstance(thing, tuple) else ()
            self.refused(place, spans, thing)
            self.refused(place, lets_nothing, thing)
            self.refused(place, lets_in, thing, "1")
            self.refused(place, same_set, thing, ())
            self.refused(place, is_within, (), thing)

    def test_what_is_no_version(self):
        for thing in list(samples.BAD_VERSIONS) + samples.no_strings() + ["1" * 25, samples.long_version(61)]:
            for requirement in ((), (("<", "0"),), (("==", "1.*"), ("!=", "1.0"))):
                with self.assertRaises(BadVersion):
                    lets_in(requirement, thing)

    def test_bad_requirement_comes_ahead_of_bad_version(self):
        for thing, place in zip(WRONG, PLACES):
            for version in ("01", None, (">=", "1"), []):
                self.refused(place, lets_in, thing, version)

    def test_the_first_argument_comes_first(self):
        first, second = ((">=", "1"), None), ((">=", "1"), (">=", "1"), None)
        for call in (same_set, is_within):
            self.refused((1,), call, first, second)
            self.refused((2,), call, second, first)
            self.refused((), call, None, second)
            self.refused((2,), call, second, None)

    def test_a_refused_call_changes_no_later_answer(self):
        thing = ((">", "1.2"), ("!=", "1.4.*"), ("<=", "2"))
        told = spans(thing)
        for wrong, place in zip(WRONG, PLACES):
            self.refused(place, spans, wrong)
            self.refused(place, same_set, thing, wrong)
            with self.assertRaises(BadVersion):
                lets_in(thing, "01")
            self.assertEqual(spans(thing), told)
            self.assertIs(lets_in(thing, "1.3"), True)
            self.assertIs(same_set(thing, thing), True)

    def test_arguments_stay_and_are_not_kept(self):
        clause = [">=", "1"]
        rows = [(">=", "1")]
        self.refused((0,), spans, (clause,))
        self.refused((), spans, rows)
        self.assertEqual((clause, rows), ([">=", "1"], [(">=", "1")]))

    def test_equal_calls_return_equal_results(self):
        for text in TOLD:
            one, other = read_requirement(text), read_requirement(text)
            self.assertEqual(spans(one), spans(other))
            self.assertIs(same_set(one, other), True)


if __name__ == "__main__":
    unittest.main()
