"""Point [1] and the interface, over the whole program."""

import importlib
import inspect
import itertools
import unittest

import samples
from pickedrelease import (alike, desk, errors, fewest, later, picking, project, requirements, rows, spans, telling,
                           versions)
from pickedrelease.errors import BadQuestion, BadReleases, BadRequirement, BadText, BadVersion, Missing, PickError

CLAUSE = (">=", "1.0")
RELEASE = ("1.0", False)

# For each kind of argument what can be passed, and what is refused, with the errors.
PASSED = {
    "version": ("1", "0!1.0rc1.post2.dev3", "1.0.0"),
    "requirement": ((), (("<", "0"),), (("~=", "1.4"), ("!=", "1.5.*")), (("==", "1.0rc1"),)),
    "releases": ((), (RELEASE, ("2", True), ("3rc1", False)), (("1.0rc1", True),)),
    "requirement text": ("", ">=1", ">=1,!=1.4.*,==2"),
    "releases text": ("", "1.0", "1.0 -2 3rc1"),
    "versions": ((), ("1", "1.0"), ("2", "3rc1")),
    "row": ((), ((),), ((CLAUSE,), (("<", "0"),), ())),
}
REFUSED = {
    "version": ((None, BadVersion), ("", BadVersion), ("01", BadVersion), (1, BadVersion), (["1"], BadVersion)),
    "requirement": ((None, BadRequirement), ([], BadRequirement), ((None,), BadRequirement),
                    ((CLAUSE,) * 13, BadRequirement), (CLAUSE, BadRequirement), ([CLAUSE], BadRequirement)),
    "releases": ((None, BadReleases), ([], BadReleases), ([RELEASE], BadReleases), ((RELEASE,) * 2, BadReleases),
                 (RELEASE, BadReleases), ((("1.0", 0),), BadReleases), ((("1.0", 1),), BadReleases)),
    "requirement text": ((None, BadText), (b"", BadText), (",", BadText), (">=1,x,<2", BadText), ([">=1"], BadText),
                         (",".join([">=1"] * 13), BadRequirement), (">=1.0.0.0.0.0.0.0.0", BadText)),
    "releases text": ((None, BadText), (b"", BadText), (" ", BadText), ("1 x 2", BadText), (["1"], BadText),
                      ("1 2 1.0", BadReleases), (" ".join(map(str, range(41))), BadReleases)),
    "versions": ((None, BadQuestion), ([], BadQuestion), (["1"], BadQuestion), (("1",) * 21, BadQuestion),
                 (("1", None), BadQuestion), ("1", BadQuestion)),
    "row": ((None, BadQuestion), ([], BadQuestion), ([()], BadQuestion), (((),) * 13, BadQuestion),
            ((None,), BadRequirement), (((), []), BadRequirement), ((CLAUSE,), BadRequirement)),
}

# The functions of the interface, with the kinds of their arguments and of their results, None for several kinds.
FUNCTIONS = {
    versions: (("need_version", ("version",), None), ("order", ("version", "version"), int),
               ("plainest", ("version",), str), ("following", ("version",), str),
               ("is_forerunner", ("version",), bool)),
    requirements: (("need_requirement", ("requirement",), tuple), ("names", ("requirement",), bool),
                   ("pins", ("requirement",), tuple), ("requirement_text", ("requirement",), str),
                   ("read_requirement", ("requirement text",), tuple)),
    spans: (("spans", ("requirement",), tuple), ("lets_in", ("requirement", "version"), bool),
            ("same_set", ("requirement", "requirement"), bool), ("is_within", ("requirement", "requirement"), bool),
            ("lets_nothing", ("requirement",), bool)),
    picking: (("need_releases", ("releases",), tuple), ("candidates", ("requirement", "releases"), tuple),
              ("pick", ("requirement", "releases"), None), ("releases_text", ("releases",), str),
              ("read_releases", ("releases text",), tuple)),
    alike: (("picks_alike", ("requirement", "requirement"), bool), ("parted", ("requirement", "requirement"), None),
            ("carries", ("requirement", "requirement"), bool), ("dropped", ("requirement", "requirement"), None),
            ("is_rising", ("requirement",), bool), ("falling", ("requirement",), None)),
    later: (("lasts", ("requirement", "releases"), bool), ("lasts_upwards", ("requirement", "releases"), bool),
            ("breaker", ("requirement", "releases"), None), ("breaker_upwards", ("requirement", "releases"), None)),
    fewest: (("fewest", ("requirement",), tuple), ("needless", ("requirement",), tuple)),
    telling: (("telling", ("versions", "versions"), None),),
    rows: (("is_open", ("row",), bool), ("core", ("row",), None), ("bars", ("row", "version"), tuple)),
}
ROWS = [(getattr(module, name), kinds, result)
        for module, listed in FUNCTIONS.items() for name, kinds, result in listed]


def passed_arguments(kinds):
    """What can be passed to a function."""
    return itertools.product(*[PASSED[kind] for kind in kinds])


def results():
    """What all functions return."""
    return [[call(*arguments) for arguments in passed_arguments(kinds)] for call, kinds, _ in ROWS]


class Interface(unittest.TestCase):

    def test_functions_stand_in_their_files(self):
        for module, listed in FUNCTIONS.items():
            for name, kinds, _ in listed:
                call = getattr(module, name)
                self.assertEqual((call.__module__, call.__name__), (module.__name__, name))
                self.assertEqual(len(inspect.signature(call).parameters), len(kinds), name)
        self.assertEqual(versions.is_version.__module__, "pickedrelease.versions")
        self.assertEqual(requirements.is_clause.__module__, "pickedrelease.requirements")

    def test_classes_stand_in_their_files(self):
        for module, names in ((errors, ("PickError", "BadRequirement", "BadReleases", "BadText", "BadVersion",
                                        "BadQuestion", "Missing")), (project, ("Project",)), (desk, ("Desk",))):
            for name in names:
                self.assertEqual(getattr(module, name).__module__, module.__name__)

    def test_constants(self):
        self.assertEqual((requirements.MOST_CLAUSES, picking.MOST_RELEASES, telling.MOST_TOLD), (12, 40, 20))
        self.assertEqual(requirements.SIGNS, ("==", "!=", "<=", ">=", "<", ">", "~="))

    def test_names_are_imported_from_their_modules(self):
        for name in ("errors", "versions", "requirements", "spans", "picking", "alike", "later", "fewest", "telling",
                     "rows", "project", "desk"):
            importlib.import_module("pickedrelease." + name)


class Errors(unittest.TestCase):

    def refused(self, error, call, *arguments):
        with self.assertRaises(error) as caught:
            call(*arguments)
        self.assertIs(type(caught.exception), error, (call, arguments))

    def test_the_first_wrong_argument_tells_the_error(self):
        for call, kinds, _ in ROWS:
            for at, kind in enumerate(kinds):
                rest = [PASSED[other] + tuple(thing for thing, _ in REFUSED[other]) for other in kinds[at + 1:]]
                for ahead in passed_arguments(kinds[:at]):
                    for thing, error in REFUSED[kind]:
                        for behind in itertools.product(*rest):
                            self.refused(error, call, *ahead, thing, *behind)

    def test_things_of_other_kinds(self):
        first = {"version": BadVersion, "requirement text": BadText, "releases text": BadText,
                 "requirement": BadRequirement, "releases": BadReleases, "versions": BadQuestion, "row": BadQuestion}
        for call, kinds, _ in ROWS:
            for at, kind in enumerate(kinds):
                ahead = [PASSED[other][-1] for other in kinds[:at]]
                behind = [PASSED[other][-1] for other in kinds[at + 1:]]
                for thing in samples.no_strings():
                    # A tuple of strings is of the kind that is wanted, or nearly so.
                    if not isinstance(thing, tuple):
                        self.refused(first[kind], call, *ahead, thing, *behind)

    def test_questions_about_anything(self):
        for thing in samples.no_strings() + [[CLAUSE], (CLAUSE,), RELEASE]:
            self.assertIs(versions.is_version(thing), False)
            self.assertIs(requirements.is_clause(thing), False)
        self.assertIs(versions.is_version("1.0"), True)
        self.assertIs(requirements.is_clause(CLAUSE), True)

    def test_no_error_stands_under_another_one(self):
        kinds = (BadRequirement, BadReleases, BadText, BadVersion, BadQuestion, Missing)
        for one, other in itertools.permutations(kinds, 2):
            self.assertFalse(issubclass(one, other))
        for kind in kinds[:-1]:
            self.assertEqual(kind.__bases__, (PickError,))
        self.assertEqual((PickError.__bases__, Missing.__bases__), ((ValueError,), (KeyError,)))

    def test_lists_that_are_passed_stay(self):
        things = {"requirement": [CLAUSE], "releases": [RELEASE], "versions": ["1"], "row": [()], "version": ["1"],
                  "requirement text": [">=1"], "releases text": ["1"]}
        ahead = {kind: list(thing) for kind, thing in things.items()}
        for call, kinds, _ in ROWS:
            for at, kind in enumerate(kinds):
                with self.assertRaises(PickError):
                    call(*[things[other] if place == at else PASSED[other][0] for place, other in enumerate(kinds)])
        self.assertEqual(things, ahead)


class Results(unittest.TestCase):

    def test_kinds_of_results(self):
        for call, kinds, result in ROWS:
            for arguments in passed_arguments(kinds):
                told = call(*arguments)
                if result is not None:
                    self.assertIs(type(told), result, (call, arguments))

    def test_numbers_are_no_truth_values(self):
        row = ((), (("<", "0"),), (CLAUSE,), (("<", "1"),))
        orders = versions.order("1", "1.0"), versions.order("1", "2"), versions.order("2", "1")
        for numbers in (orders, fewest.needless((CLAUSE,) * 2), rows.core(row), rows.core(row[:1] + row[2:]),
                        rows.bars(row, "1")):
            for number in numbers:
                self.assertIs(type(number), int)

    def test_what_is_needed_is_told_itself(self):
        for call, kind in ((versions.need_version, "version"), (requirements.need_requirement, "requirement"),
                           (picking.need_releases, "releases")):
            for thing in PASSED[kind]:
                self.assertIs(call(thing), thing)

    def test_equal_calls_return_equal_results(self):
        self.assertEqual(results(), results())

    def test_refused_calls_change_no_later_answer(self):
        told = results()
        for call, kinds, _ in ROWS:
            for at, kind in enumerate(kinds):
                for thing, _ in REFUSED[kind]:
                    with self.assertRaises(PickError):
                        call(*[thing if place == at else PASSED[other][-1] for place, other in enumerate(kinds)])
        self.assertEqual(results(), told)

    def test_projects_and_desks_change_no_answer_of_a_function(self):
        told = results()
        one, two = project.Project(PASSED["releases"][1]), desk.Desk()
        one.want("a", PASSED["requirement"][2])
        one.withdraw("1")
        for line in ("release 1.0", "want a ~=1.4,!=1.5.*", "release 01", "want a x", "withdraw 1.0", "undo"):
            two.say(line)
        one.undo()
        self.assertEqual(results(), told)
        self.assertEqual(PASSED["releases"][1], (RELEASE, ("2", True), ("3rc1", False)))

    def test_functions_change_no_project_and_no_desk(self):
        one, two = project.Project(PASSED["releases"][1]), desk.Desk()
        one.want("a", PASSED["requirement"][2])
        two.say("release 1.0")
        told = one.releases(), one.names(), one.pick(), one.breaker(), two.say("list"), two.say("lasts")
        results()
        for call, kinds, _ in ROWS:
            with self.assertRaises(PickError):
                call(*[REFUSED[kind][0][0] for kind in kinds])
        self.assertEqual((one.releases(), one.names(), one.pick(), one.breaker(), two.say("list"), two.say("lasts")),
                         told)

    def test_plainest_texts_and_texts_as_they_stand(self):
        listed = (("1.0", False), ("0!2.0rc1", True))
        self.assertEqual(requirements.pins((("==", "0!1.0"),)), ("1",))
        self.assertEqual(versions.plainest("0!1.0"), "1")
        self.assertEqual(picking.pick((("==", "2rc1"),), listed), "0!2.0rc1")
        self.assertEqual(picking.candidates((), listed), ("1.0",))
        self.assertEqual(picking.releases_text(listed), "1.0 -0!2.0rc1")
        self.assertEqual(project.Project(listed).pick(), "1.0")
        self.assertEqual(later.breaker((("==", "3.0"),), listed), "3")
        self.assertEqual(alike.parted((("==", "3.0"),), (("<", "0"),)), (("3", False),))
        self.assertEqual(spans.spans((("==", "3.0"),)), ((("from", "3"), ("below", "3.post0.dev0")),))


if __name__ == "__main__":
    unittest.main()
