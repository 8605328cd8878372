"""Points [6] and [17]: CLAUSEs, REQUIREMENTs, NAMES, PINS, texts."""

import unittest

import samples
from pickedrelease import requirements
from pickedrelease.errors import BadRequirement, BadText, PickError
from pickedrelease.requirements import (is_clause, names, need_requirement, pins, read_requirement, requirement_text)

ANY_SIGNS = (">=", "<=", "==", "!=")
PLAIN_SIGNS = ("<", ">")
STAR_SIGNS = ("==", "!=")
SIGNS = ("==", "!=", "<=", ">=", "<", ">", "~=")

PLAIN = ("0", "1", "1.0", "1.4.0", "0.0", "1!0", "0!1.2", "1.2.3.4.5.6.7.8")
WITH_ENDS = ("1a1", "1.0b1", "1.0rc1", "1.post1", "1.0.dev0", "1!1.0a1.post1.dev1", "1.0.post0")

GREATEST = "1000000000"
TOO_GREAT = "1000000001"
LIMITED = ("{}", "1.{}", "{}!1.0", "1.0a{}", "1.0b{}", "1.0rc{}", "1.0.post{}", "1.0.dev{}", "1a1.post{}.dev1",
           "1a1.post1.dev{}", "1a{}.post1", "1.{}.1", "1.1.1.1.1.1.1.{}")

CLAUSE = (">=", "1.0")
BAD_ITEMS = ((">=", "01"), (">=", ""), ("", "1"), ("=", "1"), ("===", "1"), ("~", "1.0"), ("=>", "1"), ("=<", "1"),
             ("<>", "1"), (">= ", "1"), (" >=", "1"), (">=", " 1"), (">=", "1\n"), (">=\n", "1"), (">=1", "1"),
             (">=", ">=1"), ("<", "=1"), (">", "=1"), (">=", "1.0", "2"), (">=",), (), (">=", None), (None, "1"),
             (">=", 1), (1, "1"), (True, "1"), (">=", b"1"), (b">=", "1"), (">=", ["1"]), (">=", ("1",)),
             ([">="], "1"), ({}, {}), (samples.Unequal(), "1"), (">=", samples.Unequal()), [">=", "1"], ">=1", ">1",
             (("==", "1"), ("==", "1")), {">=": "1", "<": "2"}, ("==", "1", None))
BAD_STARS = ("*", ".*", "1*", "1.", "1.*.*", "1..*", "1.*.1", "01.*", "1.0a1.*", "1rc1.*", "1.post1.*", "1.dev1.*",
             "1.* ", " 1.*", "1.*\n", "1!.*", "!1.*", "1.**", "1.*.dev0", "1 .*")


def refused(case, call, thing, place):
    """Check that a call refuses a thing with BadRequirement at a place, every time."""
    for _ in range(2):
        with case.assertRaises(BadRequirement) as caught:
            call(thing)
        case.assertEqual(caught.exception.place, place)


def refused_text(case, thing, place):
    """Check that no REQUIREMENT is read from a thing, and at which place."""
    with case.assertRaises(BadText) as caught:
        read_requirement(thing)
    case.assertEqual(caught.exception.place, place)


class Interface(unittest.TestCase):

    def test_constants(self):
        self.assertEqual(requirements.MOST_CLAUSES, 12)
        self.assertEqual(requirements.SIGNS, SIGNS)
        self.assertIsInstance(requirements.SIGNS, tuple)

    def test_functions_are_defined_in_their_file(self):
        for call in (is_clause, names, need_requirement, pins, read_requirement, requirement_text):
            self.assertEqual(call.__module__, "pickedrelease.requirements")


class Clauses(unittest.TestCase):

    def check(self, sign, text, wanted):
        self.assertIs(is_clause((sign, text)), wanted, (sign, text))
        if wanted:
            self.assertEqual(need_requirement(((sign, text),)), ((sign, text),))
            self.assertEqual(read_requirement(sign + text), ((sign, text),))
        else:
            refused(self, need_requirement, ((sign, text),), (0,))
            refused_text(self, sign + text, (0,))

    def test_signs_that_take_any_version(self):
        for sign in ANY_SIGNS:
            for text in PLAIN + WITH_ENDS:
                self.check(sign, text, True)

    def test_bounds_without_their_version_take_plain_versions_alone(self):
        for sign in PLAIN_SIGNS:
            for text in PLAIN:
                self.check(sign, text, True)
            for text in WITH_ENDS:
                self.check(sign, text, False)

    def test_stars_stand_behind_equal_and_unequal_alone(self):
        for sign in SIGNS:
            for text in PLAIN:
                self.check(sign, text + ".*", sign in STAR_SIGNS)
            for text in WITH_ENDS:
                self.check(sign, text + ".*", False)

    def test_a_compatible_version_has_two_numbers_or_more(self):
        for text in ("1.0", "0.0", "1.4.0", "1!1.0", "1.0a1", "1.0.post1", "1.0.dev0", "1.2.3.4.5.6.7.8"):
            self.check("~=", text, True)
        for text in ("1", "0", "1!1", "1a1", "1.post1", "1.dev0", "1!1rc1.post1.dev1"):
            self.check("~=", text, False)

    def test_wrong_texts(self):
        for sign in SIGNS:
            for text in samples.BAD_VERSIONS:
                wanted = sign in STAR_SIGNS and text in ("1.*", "1.0.*")
                self.assertIs(is_clause((sign, text)), wanted, (sign, text))
            for text in BAD_STARS:
                self.assertIs(is_clause((sign, text)), False, (sign, text))

    def test_at_most_eight_numbers(self):
        for sign in SIGNS:
            self.check(sign, samples.long_version(8), True)
            self.check(sign, samples.long_version(8, "0"), True)
            self.check(sign, "1!" + samples.long_version(8), True)
            self.check(sign, samples.long_version(9), False)
            self.check(sign, samples.long_version(9, "0"), False)
            self.check(sign, "1!" + samples.long_version(9), False)
        for sign in STAR_SIGNS:
            self.check(sign, samples.long_version(8) + ".*", True)
            self.check(sign, samples.long_version(8, "0") + ".*", True)
            self.check(sign, samples.long_version(9) + ".*", False)
            self.check(sign, samples.long_version(9, "0") + ".*", False)
        self.check(">=", samples.long_version(8) + "rc1.post1.dev1", True)
        self.check(">=", samples.long_version(9) + "rc1.post1.dev1", False)

    def test_no_number_above_the_greatest(self):
        for form in LIMITED:
            for sign in ANY_SIGNS:
                self.check(sign, form.format(GREATEST), True)
                self.check(sign, form.format(TOO_GREAT), False)
                self.check(sign, form.format("9" * 24), False)
        for form in ("{}", "1.{}", "{}!1.0"):
            for sign, star in (("<", ""), (">", ""), ("==", ".*"), ("!=", ".*")):
                self.check(sign, form.format(GREATEST) + star, True)
                self.check(sign, form.format(TOO_GREAT) + star, False)
        for form in ("1.{}", "{}.1", "{}!1.0", "1.0.dev{}"):
            self.check("~=", form.format(GREATEST), True)
            self.check("~=", form.format(TOO_GREAT), False)

    def test_other_things_are_no_clauses(self):
        for at, item in enumerate(BAD_ITEMS):
            self.assertIs(is_clause(item), False, at)
            refused(self, need_requirement, (item,), (0,))
        for at, item in enumerate(samples.no_strings()):
            self.assertIs(is_clause(item), False, at)
            self.assertIs(is_clause((">=", item)), False, at)
            self.assertIs(is_clause((item, "1")), False, at)
            refused(self, need_requirement, (item,), (0,))


class Requirements(unittest.TestCase):

    def test_a_requirement_is_returned_itself(self):
        for thing in ((), (CLAUSE,), (CLAUSE, CLAUSE), (CLAUSE, ("!=", "1.3.*"), ("~=", "1.0a1"))):
            self.assertIs(need_requirement(thing), thing)

    def test_at_most_twelve_clauses(self):
        thing = (CLAUSE,) * 12
        self.assertIs(need_requirement(thing), thing)
        for call in (need_requirement, names, pins, requirement_text):
            refused(self, call, (CLAUSE,) * 13, ())
            refused(self, call, (None,) * 13, ())
            refused(self, call, ((">=", "01"),) + (CLAUSE,) * 12, ())

    def test_no_tuple_has_no_place(self):
        things = [thing for thing in samples.no_strings() if not isinstance(thing, tuple)]
        things += [[CLAUSE], [], "", ">=1", CLAUSE[0], {CLAUSE: True}, {CLAUSE}, [None]]
        for call in (need_requirement, names, pins, requirement_text):
            for thing in things:
                refused(self, call, thing, ())

    def test_the_first_item_that_is_none(self):
        for call in (need_requirement, names, pins, requirement_text):
            for item in BAD_ITEMS:
                for ahead in (0, 1, 5, 11):
                    refused(self, call, (CLAUSE,) * ahead + (item,), (ahead,))
                refused(self, call, (CLAUSE, item, item), (1,))
                refused(self, call, (item, CLAUSE), (0,))
            refused(self, call, (CLAUSE, None, 3), (1,))

    def test_a_clause_alone_is_no_requirement(self):
        refused(self, need_requirement, CLAUSE, (0,))

    def test_a_refusal_is_a_refused_argument(self):
        with self.assertRaises(PickError):
            need_requirement(None)

    def test_a_refused_list_stays_and_is_not_kept(self):
        rows = [CLAUSE]
        refused(self, need_requirement, rows, ())
        inner = [">=", "1.0"]
        refused(self, need_requirement, (CLAUSE, inner), (1,))
        self.assertEqual((rows, inner), ([CLAUSE], [">=", "1.0"]))
        self.assertEqual(requirement_text((CLAUSE,)), ">=1.0")


class Naming(unittest.TestCase):

    def test_a_forerunner_under_another_sign_names(self):
        for sign in ("==", "<=", ">=", "~="):
            for text in ("1.0a1", "1.0b1", "1.0rc1", "1.0.dev0", "1.0a1.post1", "1.0.post1.dev0"):
                self.assertIs(names(((sign, text),)), True, (sign, text))
                self.assertIs(names((("!=", "1.0a1"), ("<", "2"), (sign, text))), True, (sign, text))

    def test_a_forerunner_under_unequal_alone_does_not(self):
        for text in ("1.0a1", "1.0.dev0", "1.0rc1.post1"):
            self.assertIs(names((("!=", text),)), False)
            self.assertIs(names((("!=", text), (">=", "1.0"), ("==", "1.0.*"))), False)

    def test_finals_do_not_name(self):
        self.assertIs(names(()), False)
        for sign in ("==", "<=", ">=", "~=", "!="):
            for text in ("1.0", "1.0.post1", "1!1.0"):
                self.assertIs(names(((sign, text),)), False, (sign, text))
        for sign in ("<", ">"):
            self.assertIs(names(((sign, "1.0"),)), False)
        for sign in ("==", "!="):
            self.assertIs(names(((sign, "1.0.*"),)), False)

    def test_naming_does_not_ask_what_is_let_in(self):
        self.assertIs(names((("<", "0"), ("==", "1.0a1"))), True)


class Pinning(unittest.TestCase):

    def test_without_pins(self):
        for thing in ((), (CLAUSE,), (("==", "1.0.*"),), (("!=", "1.0"),), (("~=", "1.0"), ("<=", "1.0")),
                      (("<", "1"), (">", "1"), ("!=", "1.*"))):
            self.assertEqual(pins(thing), ())

    def test_pins_are_plainest_and_once(self):
        self.assertEqual(pins((("==", "1.0"),)), ("1",))
        self.assertEqual(pins((("==", "1.0"), ("==", "0!1"), ("==", "1.0.0"))), ("1",))
        self.assertEqual(pins((("==", "0!0.0"),)), ("0",))
        self.assertEqual(pins((("==", "1!1.0rc1.post0.dev0"), ("==", "1.0.*"))), ("1!1rc1.post0.dev0",))

    def test_pins_ascend(self):
        self.assertEqual(pins((("==", "10"), ("==", "9.0"), ("==", "1.0.1"), ("==", "1.0"), ("==", "1.post0"),
                               ("==", "1rc1"), ("==", "1a1"), ("==", "1.dev0"), ("==", "1!0"), ("==", "1.0"))),
                         ("1.dev0", "1a1", "1rc1", "1", "1.post0", "1.0.1", "9", "10", "1!0"))

    def test_pins_whatever_the_other_clauses_are(self):
        self.assertEqual(pins((("==", "1.0"), ("!=", "1.0"), ("<", "0"))), ("1",))
        self.assertEqual(pins((("==", "2"), ("==", "1"), ("==", "3.*"))), ("1", "2"))

    def test_twelve_pins(self):
        thing = tuple(("==", str(number)) for number in range(12, 0, -1))
        self.assertEqual(pins(thing), tuple(str(number) for number in range(1, 13)))


TEXTS = (
    ("", ()),
    (">=1.0", ((">=", "1.0"),)),
    ("==1.0.*", (("==", "1.0.*"),)),
    ("!=1.3.*,>=1.0,<2.0", (("!=", "1.3.*"), (">=", "1.0"), ("<", "2.0"))),
    ("<1,>1,<=1,>=1,==1,!=1,~=1.0",
     (("<", "1"), (">", "1"), ("<=", "1"), (">=", "1"), ("==", "1"), ("!=", "1"), ("~=", "1.0"))),
    ("~=0!1.0.0rc1.post0.dev0,~=0!1.0.0rc1.post0.dev0", (("~=", "0!1.0.0rc1.post0.dev0"),) * 2),
    (",".join(["==1.0"] * 12), (("==", "1.0"),) * 12),
)


class Texts(unittest.TestCase):

    def test_texts_there_and_back(self):
        for text, thing in TEXTS:
            self.assertEqual(requirement_text(thing), text)
            self.assertEqual(read_requirement(text), thing)
            self.assertEqual(requirement_text(read_requirement(text)), text)

    def test_what_is_read_is_a_requirement(self):
        for text, _ in TEXTS:
            told = read_requirement(text)
            self.assertIs(need_requirement(told), told)
            for item in told:
                self.assertIs(is_clause(item), True)

    def test_what_is_no_string(self):
        for thing in samples.no_strings() + [(), (CLAUSE,), [">=1"], CLAUSE]:
            refused_text(self, thing, ())

    def test_empty_parts(self):
        for text, at in ((",", 0), (",,", 0), (">=1,", 1), (",>=1", 0), (">=1,,>=1", 1), (">=1,>=1,", 2)):
            refused_text(self, text, (at,))

    def test_parts_that_are_none(self):
        for part in (" ", "1", "1.0", ">", ">=", "=1", "===1", "==", "!1", "~1.0", "~=1", ">=1 ", " >=1", ">= 1",
                     ">=1\n", "\n", ">=01", "<1a1", ">1.dev0", ">=1.*", "~=1.0.*", "==1.0a1.*", "==*", ">=>=1",
                     "<==1", "<=<1", "=>1", ">=1;<2", ">=1 <2", "\n>=1", ">=1.0.0.0.0.0.0.0.0", ">=1000000001", "any",
                     "*", "()", "<>1"):
            refused_text(self, part, (0,))
            refused_text(self, ">=1," + part, (1,))
            refused_text(self, ">=1,!=2," + part + ",<3,01", (2,))
            refused_text(self, part + ",>=1", (0,))

    def test_too_many_clauses(self):
        for count in (13, 14, 50):
            refused(self, read_requirement, ",".join(["==1.0"] * count), ())

    def test_bad_text_comes_ahead_of_too_many_clauses(self):
        refused_text(self, ",".join(["==1.0"] * 12 + ["==01"]), (12,))
        refused_text(self, ",".join(["==1.0"] * 20 + [""]), (20,))
        refused_text(self, ",".join(["==01"] + ["==1.0"] * 20), (0,))

    def test_refusals_are_refused_arguments(self):
        with self.assertRaises(PickError):
            read_requirement(None)

    def test_refused_texts_change_no_later_answer(self):
        told = read_requirement(">=1.0,<2")
        for text in (">=1.0,<2a1", None, ",".join([">=1"] * 13)):
            with self.assertRaises(PickError):
                read_requirement(text)
        self.assertEqual(read_requirement(">=1.0,<2"), told)


if __name__ == "__main__":
    unittest.main()
