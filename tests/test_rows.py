"""Point [16]: several REQUIREMENTs together, and their COREs."""

import itertools
import random
import time
import unittest

import samples
from pickedrelease.errors import BadQuestion, BadRequirement, BadVersion
from pickedrelease.requirements import read_requirement
from pickedrelease.rows import bars, core, is_open
from pickedrelease.spans import lets_nothing

CALLS = (is_open, core, lambda row: bars(row, "1"))

# Texts of REQUIREMENTs, and BASEs at and about their bounds.
TEXTS = ("", ">=0.dev0", ">=1", ">1", ">1.1", ">=2", "<1", "<=1", "<1.1", "<2", "==1", "==2", "!=1", "!=1.*", "==1.*",
         "==2.*", "==1.0.*", "==1.1.*", "!=1.1.*", "~=1.1", "<0", "==1,!=1", ">=1,<1.1", ">1,<2,!=1.1.*", "!=0.*",
         "<=1.0.post0", ">=1.post0.dev0", "==1rc1", "<1!0", ">=1!0.dev0", "!=1!0.*", "<2,!=1.*,!=0.*")
BASES = ("0", "0.0.1", "0.9", "1", "1.0.0.1", "1.0.1", "1.1", "1.1.0.1", "1.1.1", "1.2", "2", "2.0.1", "2.1", "3",
         "1!0",
         "1!0.1", "1!1", "2!0")
ENDS = (".dev0", ".dev1", "rc1", "rc1.post0", "", ".post0.dev0", ".post0.dev1", ".post0", ".post1")
VERSIONS = tuple(base + end for base in BASES for end in ENDS)

# Those that let in much, so that COREs of them are large.
WIDE = (">=1", "<2", "!=1.*", "!=0.*", ">1", "!=1", "<=2", ">=1.1", "!=1.1.*", "!=2.*")

# Texts of rows, and all COREs that they have, None where they are open.
ROWS = (
    ((), None), (("",), None), (("", ""), None), ((">=1", "<=1"), None), (("~=1.1", "==1.*", "!=1"), None),
    (("<0",), [(0,)]), (("<0", "<0"), [(0,), (1,)]), (("", "<0"), [(1,)]), (("<0", ""), [(0,)]),
    (("", "==1,!=1", ">=1"), [(1,)]), ((">=2", "<1"), [(0, 1)]), ((">=2", "", "<1"), [(0, 2)]),
    (("", "<1", "", ">=2", ""), [(1, 3)]), (("==1", "==2", "==3"), [(0, 1), (0, 2), (1, 2)]),
    (("==1", "==1", "==2"), [(0, 2), (1, 2)]), ((">=1", "<2", "!=1.*"), [(0, 1, 2)]),
    ((">=1", "<2", "!=1.*", "<1"), [(0, 1, 2), (0, 3)]), (("==1.*", "!=1.*"), [(0, 1)]),
    (("<1", ">1", "<0"), [(0, 1), (2,)]),
    (("==1.1.*", "==1.2.*", "<0", ">=1"), [(0, 1), (2,)]), (("<2", "!=0.*", "!=1.*"), [(0, 1, 2)]),
    (("<=1.post0.dev1", ">=1", "!=1", "!=1.post0.dev0", "!=1.post0.dev1"), [(0, 1, 2, 3, 4)]),
    (("==1", "!=1.0", "!=0!1.0.0"), [(0, 1), (0, 2)]), (("<1", "==1.*"), [(0, 1)]),
    (("<=1", "==1.*"), None), (("<1", "==1.*", ">=1.dev0"), [(0, 1), (0, 2)]),
)


def row_of(texts):
    return tuple(read_requirement(text) for text in texts)


class Reckoned(unittest.TestCase):

    def is_common(self, row, numbers, versions=VERSIONS):
        """Whether some of a row let in one of some VERSIONs together, by the words of point [6]."""
        return any(all(samples.all_take_in(row[at], version) for at in numbers) for version in versions)

    def check_core(self, row, versions=VERSIONS):
        """Check whether a row is open, and what its CORE is."""
        told = core(row)
        self.assertIs(is_open(row), told is None)
        if told is None:
            self.assertTrue(self.is_common(row, range(len(row)), versions), row)
            return
        self.assertIs(type(told), tuple)
        self.assertEqual(list(told), sorted(set(told)))
        self.assertTrue(all(type(at) is int and 0 <= at < len(row) for at in told))
        self.assertFalse(self.is_common(row, told, versions), (row, told))
        for left in told:
            self.assertTrue(self.is_common(row, [at for at in told if at != left], versions), (row, told))

    def cores(self, row):
        """All COREs of a row, by a search of all sets."""
        sets = [numbers for count in range(len(row) + 1) for numbers in itertools.combinations(range(len(row)), count)]
        closed = {numbers for numbers in sets if not self.is_common(row, numbers)}
        return [numbers for numbers in sets if numbers in closed
                and not any(tuple(at for at in numbers if at != left) in closed for left in numbers)]

    def test_by_hand(self):
        for texts, cores in ROWS:
            row = row_of(texts)
            self.check_core(row)
            self.check_core(row[::-1])
            if cores is None:
                self.assertIsNone(core(row), texts)
            else:
                self.assertIn(core(row), cores, texts)

    def test_against_a_search_of_all_sets(self):
        chance = random.Random(16)
        found = set()
        for _ in range(250):
            row = row_of(chance.choices(chance.choice((TEXTS, WIDE)), k=chance.randrange(7)))
            self.check_core(row)
            cores, told = self.cores(row), core(row)
            self.assertTrue(told in cores if cores else told is None, (row, told, cores))
            found.add(told and len(told))
        self.assertLessEqual({None, 1, 2, 3}, found)

    def test_one_and_two(self):
        for one in TEXTS:
            thing = read_requirement(one)
            self.assertIs(is_open((thing,)), not lets_nothing(thing))
            self.assertEqual(core((thing,)), (0,) if lets_nothing(thing) else None)
            for other in TEXTS:
                both = (thing, read_requirement(other))
                self.assertIs(is_open(both), not lets_nothing(both[0] + both[1]), (one, other))
                self.check_core(both)

    def test_bars(self):
        chance = random.Random(17)
        for _ in range(150):
            row = row_of(chance.choices(TEXTS, k=chance.randrange(13)))
            for version in chance.sample(VERSIONS, 8):
                told = bars(row, version)
                self.assertIs(type(told), tuple)
                self.assertEqual(told, tuple(at for at, thing in enumerate(row)
                                             if not samples.all_take_in(thing, version)), (row, version))

    def test_bars_by_hand(self):
        row = row_of((">=1", "", "<2", "<0", "!=1.0", "==1.*"))
        for version, told in (("1", (3, 4)), ("1.0", (3, 4)), ("0!1.0.0", (3, 4)), ("1.1", (3,)), ("2", (2, 3, 5)),
                              ("1rc1", (0, 3)), ("0.9", (0, 3, 5)), ("1!1", (2, 3, 5)), ("2.dev0", (2, 3, 5))):
            self.assertEqual(bars(row, version), told, version)
        self.assertEqual(bars((), "1"), ())
        self.assertEqual(bars(((), ()), "1rc1"), ())
        self.assertEqual(bars(row_of(("<0",) * 12), "1"), tuple(range(12)))


class Great(unittest.TestCase):

    def timed(self, row, told):
        begun = time.process_time()
        self.assertEqual(core(row), told)
        self.assertIs(is_open(row), told is None)
        self.assertLess(time.process_time() - begun, 2)

    def test_twelve_of_twelve_clauses(self):
        # The first one tells where 142 BLOCKs side by side begin and end, and each one leaves out some of them.
        head = "1000000000!" + ".".join(["1000000000"] * 7)
        blocks = [("!=", f"{head}.{number}.*") for number in range(142)]
        first = ((">=", head + ".0.dev0"), ("<", head + ".142"))
        row = (first + tuple(blocks[:10]),) + tuple(tuple(blocks[at:at + 12]) for at in range(10, 142, 12))
        self.assertEqual([len(thing) for thing in row], [12] * 12)
        self.timed(row, tuple(range(12)))
        self.timed(row[::-1], tuple(range(12)))
        for at in range(12):
            self.timed(row[:at] + row[at + 1:], None)
            self.timed(row[:at] + (row[at][:-1],) + row[at + 1:], None)
            self.assertEqual(bars(row, f"{head}.{at * 12}rc1"), (at,))
        self.assertEqual(bars(row, head), (0,))
        self.assertEqual(bars(row, f"{head}.142"), (0,))
        self.timed(row[:3] + ((("<", head),) + row[3][1:],) + row[4:], (0, 3))

    def test_many_rows(self):
        chance = random.Random(18)
        begun = time.process_time()
        for _ in range(20):
            row = tuple(tuple((chance.choice(("!=", ">=", "!=", "<=")),
                               f"1.{chance.randrange(9)}.{chance.randrange(9)}")
                              for _ in range(12)) for _ in range(12))
            told = core(row)
            if told is not None:
                self.assertFalse(is_open(tuple(row[at] for at in told)))
                for left in told:
                    self.assertTrue(is_open(tuple(row[at] for at in told if at != left)))
        self.assertLess(time.process_time() - begun, 5)


class Refused(unittest.TestCase):

    def refused(self, error, place, call, *arguments):
        for _ in range(2):
            with self.assertRaises(error) as caught:
                call(*arguments)
            self.assertIs(type(caught.exception), error)
            if place is not None:
                self.assertEqual(caught.exception.place, place)

    def test_the_interface(self):
        for call in (is_open, core, bars):
            self.assertEqual(call.__module__, "pickedrelease.rows")

    def test_no_tuple_of_at_most_twelve(self):
        others = [thing for thing in samples.no_strings() if not isinstance(thing, tuple)]
        for thing in others + ["", ">=1", [()], [], ((),) * 13, (None,) * 13, (((">=", "1"),),) * 13]:
            for call in CALLS:
                self.refused(BadQuestion, None, call, thing)
            self.refused(BadQuestion, None, bars, thing, None)
        for call in CALLS:
            call(((),) * 12)

    def test_wrong_requirements(self):
        wrong = [(None, ()), ([], ()), ("", ()), (((">=", "01"),), (0,)), (((">=", "1"), None), (1,)),
                 (((">=", "1"),) * 13, ()), ((("==", "1"), ("==", "2"), ("<", "1rc1")), (2,)), ((">=", "1"), (0,)),
                 ((("==", "1.0.0.0.0.0.0.0.0"),), (0,)), (((">=", "1000000001"),), (0,))]
        wrong += [(thing, (0,) if isinstance(thing, tuple) else ()) for thing in samples.no_strings()]
        for thing, place in wrong:
            for call in CALLS:
                self.refused(BadRequirement, place, call, (thing,))
                self.refused(BadRequirement, place, call, ((), ((">=", "1"),), thing, None))
                self.refused(BadRequirement, place, call, ((("<", "0"),), (("<", "0"),), thing))
                self.refused(BadRequirement, place, call, ((),) * 11 + (thing,))
                self.refused(BadRequirement, place, call, (thing, [], (None,)))
            # The VERSION comes last.
            self.refused(BadRequirement, place, bars, (thing,), None)

    def test_a_single_requirement_is_no_row(self):
        for call in CALLS:
            self.refused(BadRequirement, (0,), call, ((">=", "1"),))

    def test_wrong_versions(self):
        for version in samples.no_strings() + list(samples.BAD_VERSIONS):
            for row in ((), ((),), ((("<", "0"),),)):
                self.refused(BadVersion, None, bars, row, version)

    def test_a_refused_call_changes_no_later_answer(self):
        row = row_of((">=2", "", "<1"))
        for _ in range(2):
            self.assertEqual((is_open(row), core(row), bars(row, "1.0")), (False, (0, 2), (0, 2)))
            self.refused(BadRequirement, (), is_open, row + (None,))
            self.refused(BadQuestion, None, core, list(row))
            self.refused(BadVersion, None, bars, row, "x")

    def test_a_list_stays_as_it_is(self):
        thing, inner = [()], [((">=", "1"),)]
        self.refused(BadQuestion, None, core, thing)
        self.refused(BadRequirement, (), core, (inner,))
        self.assertEqual((thing, inner), ([()], [((">=", "1"),)]))


if __name__ == "__main__":
    unittest.main()
