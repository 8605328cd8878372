"""Points [2] to [5]: VERSIONs, their order, the FOLLOWING one."""

import unittest

import samples
from pickedrelease.errors import BadVersion, PickError
from pickedrelease.versions import following, is_forerunner, is_version, need_version, order, plainest

NINES = "9" * 24
MILLION = "1" + "0" * 24

GOOD = (
    "0", "1", "10", "1.0", "0.0.0", "1.2.3", "1.10.100", "0!0", "1!0", "10!1.0", "1a0", "1a1", "1b0", "1b20", "1rc0",
    "1rc1", "1.0a1", "1.0.0b1", "1.post0", "1.post1", "1.0.post10", "1.dev0", "1.dev1", "1.0.dev10", "1a1.post1",
    "1a1.dev1", "1a1.post1.dev1", "1.post1.dev1", "1!1.0rc1.post0.dev0", "0a0", "0.dev0", "0!0.0.dev0",
)

FOLLOWING = {
    "1.dev0": "1.dev1", "1.0.dev9": "1.dev10", "0.dev0": "0.dev1", "1a1.dev3": "1a1.dev4", "1!1.0b2.dev0": "1!1b2.dev1",
    "1rc0.dev1": "1rc0.dev2", "1.post1.dev1": "1.post1.dev2", "1rc1.post0.dev0": "1rc1.post0.dev1",
    "1.post0": "1.post1.dev0", "1.2.0.post9": "1.2.post10.dev0", "1a1.post0": "1a1.post1.dev0",
    "1rc2.post3": "1rc2.post4.dev0",
    "1a1": "1a1.post0.dev0", "1b0": "1b0.post0.dev0", "1.0rc1": "1rc1.post0.dev0",
    "1": "1.post0.dev0", "0!1.0": "1.post0.dev0", "0": "0.post0.dev0", "0.0": "0.post0.dev0", "2!0.0": "2!0.post0.dev0",
    "1.dev" + NINES: "1.dev" + MILLION,
    "1a1.dev" + NINES: "1a1.dev" + MILLION,
    "1.post1.dev" + NINES: "1.post1.dev" + MILLION,
    "1.post" + NINES: "1.post" + MILLION + ".dev0",
    "1a" + NINES: "1a" + NINES + ".post0.dev0",
    "1a" + NINES + ".post" + NINES: "1a" + NINES + ".post" + MILLION + ".dev0",
    NINES: NINES + ".post0.dev0",
}

PLAINEST = {
    "1": "1", "1.0": "1", "1.0.0": "1", "0!1": "1", "0!1.0": "1", "0!0.0": "0", "0": "0", "0.0.0": "0", "0!0": "0",
    "1!0.0": "1!0", "1!0": "1!0", "1.0.1.0": "1.0.1", "0.1.0": "0.1", "10.0": "10", "1.10.0": "1.10", "10!10": "10!10",
    "1.0a0": "1a0", "1.0.0b1.post0": "1b1.post0", "0!1.0rc1.post2.dev3": "1rc1.post2.dev3", "1.0.post0": "1.post0",
    "1.0.dev0": "1.dev0", "0.0.dev0": "0.dev0", "0!0.0a0.post0.dev0": "0a0.post0.dev0", "1.0.2a1": "1.0.2a1",
}

FORERUNNERS = ("1a0", "1.0b1", "1rc1", "1.dev0", "1.post1.dev0", "1a1.post1", "1rc1.dev1", "1b1.post0.dev0", "0.dev0",
               "1!0rc0", "0a0")
FINALS = ("0", "1", "1.0", "1!1.0", "1.post0", "1.0.post1", "0!0.post0", NINES)


def refuses(case, call, *arguments):
    """Check that a call is refused with BadVersion, every time."""
    for _ in range(2):
        with case.assertRaises(BadVersion):
            call(*arguments)


class Reading(unittest.TestCase):

    def test_good_texts_are_versions(self):
        for text in GOOD + FORERUNNERS + FINALS + tuple(samples.SOME):
            self.assertIs(is_version(text), True, text)
            self.assertIs(need_version(text), text)

    def test_other_texts_are_none(self):
        for text in samples.BAD_VERSIONS:
            self.assertIs(is_version(text), False, repr(text))
            refuses(self, need_version, text)

    def test_other_values_are_none(self):
        for at, value in enumerate(samples.no_strings()):
            self.assertIs(is_version(value), False, at)
            refuses(self, need_version, value)

    def test_numbers_have_at_most_24_figures(self):
        ten = "1" + "0" * 23
        for form in ("{}", "1.{}", "{}!1", "1a{}", "1b{}", "1rc{}", "1.post{}", "1.dev{}", "1.{}.1", "1a1.post{}.dev1",
                     "1a{}.post1", "0!{}.0"):
            for number in (NINES, ten):
                self.assertIs(is_version(form.format(number)), True, form)
            for number in (NINES + "0", MILLION, "1" * 5000, "0" + NINES[1:]):
                self.assertIs(is_version(form.format(number)), False, form)
                refuses(self, need_version, form.format(number))

    def test_versions_have_at_most_60_numbers(self):
        for end in ("", "a1", ".post1", ".dev1", "rc1.post1.dev1"):
            for last in ("0", "1"):
                self.assertIs(is_version(samples.long_version(60, last) + end), True)
                self.assertIs(is_version("1!" + samples.long_version(60, last) + end), True)
                self.assertIs(is_version(samples.long_version(61, last) + end), False)
                refuses(self, need_version, "1!" + samples.long_version(61, last) + end)

    def test_the_longest_version(self):
        longest = f"{NINES}!" + ".".join([NINES] * 60) + f"rc{NINES}.post{NINES}.dev{NINES}"
        for text in (longest, ".".join([NINES] * 60)):
            self.assertIs(is_version(text), True)
            self.assertEqual(plainest(text), text)
            self.assertEqual(order(text, text), 0)
            self.assertIs(is_version(text + "9"), False)

    def test_each_reading_refuses_what_is_no_version(self):
        for call in (plainest, following, is_forerunner):
            for text in samples.BAD_VERSIONS:
                refuses(self, call, text)
            for value in samples.no_strings():
                refuses(self, call, value)
            refuses(self, call, "1" * 25)
            refuses(self, call, samples.long_version(61))

    def test_order_refuses_either_argument(self):
        wrong = list(samples.BAD_VERSIONS) + samples.no_strings() + ["1" * 25, samples.long_version(61)]
        for thing in wrong:
            refuses(self, order, thing, "1")
            refuses(self, order, "1", thing)
            refuses(self, order, thing, thing)

    def test_a_refused_version_is_a_refused_argument(self):
        with self.assertRaises(PickError):
            need_version("01")

    def test_a_passed_value_stays_as_it_is(self):
        rows, table = ["1"], {"1": "2"}
        for call in (need_version, plainest, following, is_forerunner):
            refuses(self, call, rows)
            refuses(self, call, table)
        self.assertEqual((rows, table), (["1"], {"1": "2"}))
        rows[0] = "2"
        self.assertEqual(plainest("1.0"), "1")


class Order(unittest.TestCase):

    def test_rows_in_their_order_each_against_each(self):
        one_epoch = samples.rows_of("1.0.1") + samples.rows_of("1.1") + samples.rows_of("1!0")
        for versions in (one_epoch, samples.SOME, list(samples.BASES)):
            for here, one in enumerate(versions):
                for there, other in enumerate(versions):
                    self.assertIs(order(one, other), (here > there) - (here < there), (one, other))

    def test_neighbours_of_the_whole_row(self):
        for one, other in zip(samples.ASCENDING, samples.ASCENDING[1:]):
            self.assertEqual((order(one, other), order(other, one)), (-1, 1), (one, other))

    def test_the_bases_of_the_document(self):
        for one, other in (("1", "1.0.1"), ("1.0.1", "1.1"), ("1.1", "2"), ("1.0.0.1", "1.0.1"), ("1", "1.0.0.0.1"),
                           ("1.0.0.0.1", "1.0.0.1"), ("1.9", "1.10"), ("9", "10"), ("10", "1!0"), ("0", "0.0.1"),
                           ("1.post9", "1.0.0.1.dev0"), ("1.post9", "1.0.1.dev0"), ("2", "1!1"), ("9!1", "10!0")):
            self.assertEqual((order(one, other), order(other, one)), (-1, 1), (one, other))

    def test_numbers_behind_the_parts_go_as_integers(self):
        for one, other in (("1a9", "1a10"), ("1b9", "1b10"), ("1rc9", "1rc10"), ("1.post9", "1.post10"),
                           ("1.dev9", "1.dev10"), ("1.post1.dev9", "1.post1.dev10"), ("1a1.dev9", "1a1.dev10"),
                           ("1.dev99", "1a0.dev0"), ("1a99.post9", "1b0.dev0"), ("1b99", "1rc0.dev0"),
                           ("1rc99.post9", "1"), ("1.post9", "1.post10.dev0"), ("1a9.post9", "1a10.dev0"),
                           ("1." + "8" * 24, "1." + NINES), ("1.dev" + "9" * 23, "1.dev1" + "0" * 23)):
            self.assertEqual((order(one, other), order(other, one)), (-1, 1), (one, other))

    def test_equal_versions(self):
        for group in (("1.0", "0!1", "1.0.0", "1", "0!1.0.0"), ("0", "0!0.0", "0.0"), ("1!0", "1!0.0"),
                      ("1.0a1", "1a1", "0!1.0.0a1"), ("1.0.post1.dev2", "1.post1.dev2"), ("1.dev0", "1.0.dev0"),
                      ("1." + "0." * 58 + "0", "1")):
            for one in group:
                for other in group:
                    self.assertEqual(order(one, other), 0, (one, other))

    def test_versions_that_are_not_equal(self):
        for one, other in (("1", "1.post0"), ("1", "1.dev0"), ("1", "1a0"), ("1a0", "1b0"), ("1a0", "1a0.post0"),
                           ("1", "1!1"), ("1", "1.0.1"), ("1.post0", "1.post0.dev0"), ("10", "1"), ("1.0.1", "1.1")):
            self.assertNotEqual(order(one, other), 0, (one, other))


class Texts(unittest.TestCase):

    def test_plainest_texts(self):
        for text, told in PLAINEST.items():
            self.assertEqual(plainest(text), told)
            self.assertEqual(order(text, told), 0)
        self.assertEqual(plainest("1." + "0." * 58 + "0"), "1")
        self.assertEqual(plainest(samples.long_version(60)), samples.long_version(60))
        self.assertEqual(plainest(f"{NINES}!{NINES}.0rc{NINES}.post{NINES}.dev{NINES}"),
                         f"{NINES}!{NINES}rc{NINES}.post{NINES}.dev{NINES}")

    def test_plainest_texts_stay(self):
        for text in samples.ASCENDING:
            self.assertEqual(plainest(text), text)

    def test_following_versions(self):
        for text, told in FOLLOWING.items():
            self.assertEqual(following(text), told)
        self.assertEqual(following(samples.long_version(60)), samples.long_version(60) + ".post0.dev0")

    def test_following_is_the_least_greater_one(self):
        for text in samples.SOME:
            told = following(text)
            self.assertEqual(order(text, told), -1)
            self.assertEqual(plainest(told), told)
            for other in samples.ASCENDING:
                if order(text, other) < 0:
                    self.assertLessEqual(order(told, other), 0, (text, told, other))

    def test_forerunners_and_finals(self):
        for text in FORERUNNERS:
            self.assertIs(is_forerunner(text), True, text)
        for text in FINALS:
            self.assertIs(is_forerunner(text), False, text)

    def test_equal_calls_return_equal_results(self):
        for text in samples.SOME:
            for call in (plainest, following, is_forerunner, is_version, need_version):
                self.assertEqual(call(text), call(text))


if __name__ == "__main__":
    unittest.main()
