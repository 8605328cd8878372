"""Point [18]: PROJECTs, their wants and their PICK, undoing and trials."""

import itertools
import random
import time
import unittest

import samples
from pickedrelease.errors import (BadQuestion, BadReleases, BadRequirement, BadVersion, Missing, PickError)
from pickedrelease.fewest import needless
from pickedrelease.later import lasts
from pickedrelease.picking import pick, read_releases
from pickedrelease.project import Project, under
from pickedrelease.requirements import read_requirement
from pickedrelease.rows import bars, is_open
from pickedrelease.spans import lets_nothing

NAMES = ("a", "b", "web", "zebra", "abcdefgh")
TEXTS = ("", ">=1", ">=1.0", ">1", "<2", "<=1.1", "==1", "==1.0,>=0", "!=1", "!=1.*", "==1.*", "~=1.1", "<0",
         ">=0.dev0", ">=1rc1", "<=1.1,>=1.1", "!=1.1,!=1rc1", "<=1.post0", "!=1!0.*", ">=1,<1", "<=1.1,>=1,!=1.0.*")
# Those that let in much.
WIDE = (">=1", "<2", "!=1", "~=1.0", "!=1.1,!=1rc1", ">=1rc1", "==1.*", "!=1!0.*", "<=1.1", "!=1.0.*", ">=0.dev0")
BASES = ("0", "0.9", "0.0.1", "1", "1.0.1", "1.0.0.1", "1.1", "1.1.0.1", "1.1.1", "1.2", "2", "2.1", "1!0", "1!0.1",
         "1!1")
ENDS = (".dev0", "rc1", "", ".post0.dev0", ".post0")
VERSIONS = tuple(base + end for base in BASES for end in ENDS)
OTHER_TEXTS = ("1.0", "0!1", "1.0.0rc1", "0!1.1.0", "2.0", "1!0.0", "0.0.dev0")

# What is no name: of other kinds, empty, too long, with other letters.
BAD_NAMES = samples.no_strings() + [
    "", "abcdefghi", "abcdefghijklmnop", "A", "Web", "wEb", "weB", "WEB", "w1", "1", "1a", "a1", "web ", " web", "w b",
    " ", "\n", "web\n", "\nweb", "a.b", "a-b", "a_b", "_", "a,b", "a=b", "=", ">=1", "*", "~", "`", "{", "@", "[",
]


def want_texts(project, texts):
    """Put wants in by their texts, named a, b, and so on."""
    for name, text in zip("abcdefghijkl", texts):
        project.want(name, read_requirement(text))
    return project


def all_of(project):
    """What a Project is and can be asked, without what depends on a further argument."""
    return (project.releases(), project.names(), [project.requirement(name) for name in project.names()],
            project.pick(), project.core(), project.lasts(), project.breaker(), project.needless(),
            [project.barred(version) for version in ("1", "1.1rc1", "2")])


class Refusals(unittest.TestCase):
    """What several tests check with."""

    def refused(self, error, told, call, *arguments):
        """Check that a call raises just this error, with this place or name, if one is told."""
        with self.assertRaises(error) as caught:
            call(*arguments)
        self.assertIs(type(caught.exception), error)
        if error is Missing:
            self.assertIs(caught.exception.name, told)
        if error in (BadRequirement, BadReleases):
            self.assertEqual(caught.exception.place, told)

    def stays(self, project, error, told, call, *arguments):
        """Check that a refused call changes nothing, nor what can be undone."""
        ahead, past = all_of(project), undone(project)
        for _ in range(2):
            self.refused(error, told, call, *arguments)
            self.assertEqual(all_of(project), ahead)
            self.assertEqual(undone(project), past)


def undone(project):
    """What a Project is, undone deed by deed; it stays as it is."""
    rows = []
    with project.trial() as one:
        rows.append((one.releases(), [(name, one.requirement(name)) for name in one.names()]))
        while one.undo():
            rows.append((one.releases(), [(name, one.requirement(name)) for name in one.names()]))
    return rows


class Interface(Refusals):

    def test_where_they_are_defined(self):
        self.assertEqual((Project.__module__, under.__module__), ("pickedrelease.project",) * 2)
        for name in ("release", "withdraw", "releases", "want", "forget", "requirement", "names", "pick", "core",
                     "barred", "lasts", "breaker", "needless", "undo", "trial", "__eq__"):
            self.assertIn(name, vars(Project))

    def test_how_it_is_made(self):
        rows = read_releases("1.0 -2 1!3rc1")
        self.assertEqual(Project().releases(), ())
        self.assertEqual(Project(()).releases(), ())
        self.assertEqual(Project(rows).releases(), rows)
        self.assertEqual(Project(releases=rows).releases(), rows)
        self.assertEqual((Project(rows).names(), Project(rows).undo()), ((), False))

    def test_what_is_no_list(self):
        forty_one = tuple((str(number), False) for number in range(41))
        wrong = [(None, ()), ([], ()), ("1", ()), ([("1", False)], ()), ((("1", False), ("01", False)), (1,)),
                 ((("1", 0),), (0,)), ((("1", False), ("2", False), ("1.0", True)), (2,)), (forty_one, ()),
                 ((None,) * 41, ()), ((("1", False), ["2", False]), (1,)), (("1", False), (0,))]
        wrong += [(thing, (0,) if isinstance(thing, tuple) else ()) for thing in samples.no_strings()]
        for thing, place in wrong:
            self.refused(BadReleases, place, Project, thing)
        self.assertEqual(len(Project(forty_one[:40]).releases()), 40)

    def test_calls_that_return_nothing(self):
        project = Project()
        for told in (project.release("1"), project.withdraw("1"), project.want("a", ()), project.want("a", ()),
                     project.forget("a")):
            self.assertIsNone(told)

    def test_true_and_false(self):
        project = Project()
        for told in (project.lasts(), project.undo(), project == Project(), project != Project()):
            self.assertIs(type(told), bool)
        project.release("1")
        project.want("a", (("==", "1"),))
        for told in (project.lasts(), project.undo(), project == Project(), project != Project()):
            self.assertIs(type(told), bool)


class Releases(Refusals):

    def test_release(self):
        project = Project(read_releases("2.0"))
        for version in ("1.0", "0!3", "1!1.0rc1", "0.0.0"):
            project.release(version)
        self.assertEqual(project.releases(), (("2.0", False), ("1.0", False), ("0!3", False), ("1!1.0rc1", False),
                                              ("0.0.0", False)))

    def test_release_of_no_version(self):
        project = Project(read_releases("1"))
        for thing in samples.no_strings() + list(samples.BAD_VERSIONS):
            self.stays(project, BadVersion, None, project.release, thing)
            self.stays(project, BadVersion, None, project.withdraw, thing)
            self.stays(project, BadVersion, None, project.barred, thing)

    def test_release_of_an_equal_one(self):
        project = Project(read_releases("1.0 -2"))
        project.release("3.0rc1")
        for version in ("1", "1.0", "0!1.0.0", "2", "2.0", "3rc1", "0!3.0.0rc1"):
            self.stays(project, BadQuestion, None, project.release, version)
        project.undo()
        project.release("3.0.0rc1")
        self.assertEqual(project.releases()[2:], (("3.0.0rc1", False),))

    def test_the_forty_first(self):
        project = Project(tuple((f"1.{number}", False) for number in range(39)))
        project.release("2")
        self.stays(project, BadQuestion, None, project.release, "3")
        self.stays(project, BadQuestion, None, project.release, "2.0")
        self.stays(project, BadVersion, None, project.release, "03")
        project.withdraw("2")
        self.stays(project, BadQuestion, None, project.release, "3")
        project.undo()
        project.undo()
        project.release("3")
        self.assertEqual(len(project.releases()), 40)

    def test_withdraw(self):
        project = Project(read_releases("1.0 2 -3 4.0"))
        project.withdraw("0!4")
        project.withdraw("1")
        self.assertEqual(project.releases(), (("1.0", True), ("2", False), ("3", True), ("4.0", True)))
        project.release("5.0")
        project.withdraw("5.0.0")
        self.assertEqual(project.releases()[4:], (("5.0", True),))
        for version in ("1", "1.0", "3", "3.0", "4", "5"):
            self.stays(project, BadQuestion, None, project.withdraw, version)

    def test_withdraw_what_is_not_there(self):
        project = Project(read_releases("1.0 -3"))
        for version in ("2", "1.0.1", "1rc1", "1!1", "3.post0", "1.dev0"):
            self.stays(project, Missing, version, project.withdraw, version)
        project = Project()
        self.stays(project, Missing, "1.0", project.withdraw, "1.0")


class Wants(Refusals):

    def test_want_and_forget(self):
        project = Project()
        project.want("web", (("==", "1.0"),))
        project.want("a", ())
        project.want("abcdefgh", ((">=", "1"),))
        self.assertEqual(project.names(), ("a", "abcdefgh", "web"))
        self.assertEqual(project.requirement("web"), (("==", "1.0"),))
        self.assertEqual(project.requirement("a"), ())
        project.want("a", (("!=", "2"),))
        self.assertEqual((project.names(), project.requirement("a")), (("a", "abcdefgh", "web"), (("!=", "2"),)))
        project.forget("abcdefgh")
        self.assertEqual(project.names(), ("a", "web"))
        self.stays(project, Missing, NAMES[4], project.requirement, NAMES[4])
        self.stays(project, Missing, NAMES[4], project.forget, NAMES[4])

    def test_names_of_each_length_and_letter(self):
        project = Project()
        for name in [chr(at) for at in range(97, 123)] + ["az" * count for count in range(1, 5)]:
            project.want(name, ())
            self.assertEqual(project.names(), (name,))
            project.forget(name)

    def test_what_is_no_name(self):
        project = want_texts(Project(read_releases("1")), (">=1",))
        for name in BAD_NAMES:
            self.stays(project, BadQuestion, None, project.want, name, ())
            # The name comes ahead of the REQUIREMENT.
            self.stays(project, BadQuestion, None, project.want, name, None)
            self.stays(project, Missing, name, project.forget, name)
            self.stays(project, Missing, name, project.requirement, name)
        for name in ("b", "web", "abcdefgh"):
            self.stays(project, Missing, name, project.forget, name)
            self.stays(project, Missing, name, project.requirement, name)

    def test_what_is_no_requirement(self):
        wrong = [(None, ()), ([], ()), ("", ()), (((">=", "01"),), (0,)), (((">=", "1"), None), (1,)),
                 (((">=", "1"),) * 13, ()), ((("==", "1"), ("==", "2"), ("<", "1rc1")), (2,)), ((">=", "1"), (0,))]
        wrong += [(thing, (0,) if isinstance(thing, tuple) else ()) for thing in samples.no_strings()]
        few, many = want_texts(Project(), (">=1",)), want_texts(Project(), ("",) * 12)
        for project, names in ((few, ("a", "b")), (many, ("a", "m"))):
            for name, (thing, place) in itertools.product(names, wrong):
                # It comes ahead of the thirteenth want.
                self.stays(project, BadRequirement, place, project.want, name, thing)

    def test_the_thirteenth_want(self):
        project = want_texts(Project(), ("",) * 12)
        self.assertEqual(len(project.names()), 12)
        self.stays(project, BadQuestion, None, project.want, "m", ())
        for name in project.names():
            project.want(name, (("!=", "1"),))
            self.assertEqual(project.requirement(name), (("!=", "1"),))
        self.stays(project, BadQuestion, None, project.want, "z", ())
        project.forget("c")
        project.want("z", ())
        self.assertEqual(project.names(), tuple("abdefghijklz"))

    def test_core(self):
        project = want_texts(Project(), (">=2", "", "<1"))
        self.assertEqual(project.core(), ("a", "c"))
        project.forget("a")
        self.assertIsNone(project.core())
        project.want("z", (("<", "0"),))
        self.assertEqual(project.core(), ("z",))
        self.assertIsNone(Project().core())
        self.assertIsNone(Project(read_releases("1")).core())

    def test_core_by_ascending_names(self):
        project = Project()
        for name, text in (("z", ">=1"), ("b", "<2"), ("aa", "!=1.*"), ("c", "")):
            project.want(name, read_requirement(text))
        self.assertEqual(project.core(), ("aa", "b", "z"))
        self.assertEqual(project.barred("1.5"), ("aa",))
        self.assertEqual(project.barred("3"), ("b",))
        self.assertEqual(project.barred("0"), ("z",))
        self.assertEqual(project.barred("0.1"), ("z",))
        self.assertEqual(Project().barred("1"), ())

    def test_needless_by_hand(self):
        for texts, told in (
                ((), ""), (("",), "a"), (("", ""), "ab"), ((">=1",), ""), ((">=1", ">=1.0"), "ab"),
                ((">=1", ">=1"), "ab"), ((">=1", ">=0"), "b"), ((">=1,<2", "==1.*"), "b"), ((">=0.dev0", "<=0"), "a"),
                ((">=1", "<2", "==1.*"), "bc"), (("==1", ">=1,<=1"), "b"), (("==1", "==1.0", ">=0"), "abc"),
                (("<1", ">1"), ""), (("<1", ">2", "<0"), "abc"), ((">=0.dev0", ">=1"), ""),
                ((">=0.dev0", ">=1rc1"), "a"), (("~=1.0.dev0,==1.*", ">=1"), ""), ((">=1,<=1", "==1"), "a"),
                (("", "<0"), "a"), (("!=1,!=2", "!=2", "!=1"), "abc"), (("!=1,!=2", "!=2"), "b")):
            self.assertEqual(want_texts(Project(), texts).needless(), tuple(told), texts)

    def test_pick_by_hand(self):
        project = Project(read_releases("1.2.0 1.3 2.0rc1 -1.4"))
        self.assertEqual(project.pick(), "1.3")
        project.want("b", read_requirement(">=1.0,!=1.3.*"))
        self.assertEqual(project.pick(), "1.2.0")
        project.want("a", read_requirement(">=1.0a1"))
        # One want NAMES, and so all do together.
        self.assertEqual(project.pick(), "2.0rc1")
        project.want("c", read_requirement("==1.4"))
        self.assertEqual(project.pick(), "1.4")
        project.want("d", read_requirement("!=1.4"))
        self.assertIsNone(project.pick())
        project.forget("d")
        project.forget("c")
        project.withdraw("2.0rc1")
        self.assertEqual(project.pick(), "1.2.0")
        self.assertIsNone(Project().pick())

    def test_lasts_by_hand(self):
        project = Project(read_releases("1.0 -2"))
        self.assertIs(project.lasts(), False)
        project.want("a", read_requirement("<=1"))
        self.assertIs(project.lasts(), True)
        self.assertIsNone(project.breaker())
        project.want("b", read_requirement("<1"))
        self.assertIs(project.lasts(), False)
        project.want("c", read_requirement(">1"))
        self.assertIs(project.lasts(), True)
        project.forget("b")
        project.forget("a")
        project.want("c", read_requirement("==3.0"))
        self.assertEqual((project.lasts(), project.breaker()), (False, "3"))
        project.release("3.0.0")
        self.assertEqual((project.lasts(), project.breaker(), project.pick()), (True, None, "3.0.0"))


class Model:
    """A PROJECT by the words of point [18]."""

    def __init__(self, releases):
        self.rows = list(releases)
        self.wants = {}
        self.past = []

    def find(self, version):
        return [at for at, row in enumerate(self.rows) if samples.key(row[0]) == samples.key(version)]

    def keep(self):
        self.past.append((list(self.rows), dict(self.wants)))

    def release(self, version):
        if self.find(version) or len(self.rows) >= 40:
            return BadQuestion
        self.keep()
        self.rows.append((version, False))
        return None

    def withdraw(self, version):
        if not self.find(version):
            return Missing
        at = self.find(version)[0]
        if self.rows[at][1]:
            return BadQuestion
        self.keep()
        self.rows[at] = (self.rows[at][0], True)
        return None

    def want(self, name, requirement):
        if name not in self.wants and len(self.wants) == 12:
            return BadQuestion
        self.keep()
        self.wants[name] = requirement
        return None

    def forget(self, name):
        if name not in self.wants:
            return Missing
        self.keep()
        del self.wants[name]
        return None

    def undo(self):
        if not self.past:
            return False
        self.rows, self.wants = self.past.pop()
        return True


class Answers(Refusals):
    """What several tests check the answers of a Project with."""

    def check_lasting(self, project, clauses, rows):
        told = project.breaker()
        self.assertIs(project.lasts(), told is None)
        have = {samples.key(version) for version, _ in rows}
        if told is None:
            best = samples.picked(clauses, rows)
            for version, withdrawn in itertools.product(VERSIONS, (False, True)):
                if samples.key(version) not in have:
                    self.assertEqual(samples.picked(clauses, rows + ((version, withdrawn),)), best)
        else:
            self.assertNotIn(samples.key(told), have)
            self.assertEqual(samples.picked(clauses, rows + ((told, False),)), told)

    def check_core(self, project, wants):
        told = project.core()
        if told is None:
            self.assertTrue(self.is_common(wants.values()))
            return
        self.assertIs(type(told), tuple)
        self.assertEqual(list(told), sorted(set(told)))
        self.assertFalse(self.is_common([wants[name] for name in told]))
        for left in told:
            self.assertTrue(self.is_common([wants[name] for name in told if name != left]))

    def is_common(self, things):
        return any(all(samples.all_take_in(thing, version) for thing in things) for version in VERSIONS)

    def check_answers(self, project, model, universe):
        rows, wants = tuple(model.rows), model.wants
        names = sorted(wants)
        clauses = tuple(clause for name in names for clause in wants[name])
        self.assertEqual(project.pick(), samples.picked(clauses, rows))
        self.check_lasting(project, clauses, rows)
        self.check_core(project, wants)
        for version in ("1", "1.1rc1", "2", "0.dev0", "1!0"):
            self.assertEqual(project.barred(version), tuple(name for name in names
                                                            if not samples.all_take_in(wants[name], version)))
        rest = {left: tuple(clause for name in names if name != left for clause in wants[name]) for left in names}
        picks = universe.picks(clauses)
        self.assertEqual(project.needless(), tuple(name for name in names if universe.picks(rest[name]) == picks))


class Reckoned(Answers):

    def check_state(self, project, model):
        self.assertEqual(project.releases(), tuple(model.rows))
        self.assertIs(type(project.releases()), tuple)
        self.assertEqual(project.names(), tuple(sorted(model.wants)))
        for name in model.wants:
            self.assertEqual(project.requirement(name), model.wants[name])
        twin = Project(tuple(model.rows))
        for name in sorted(model.wants, reverse=True):
            twin.want(name, model.wants[name])
        self.assertTrue(project == twin and twin == project and not project != twin)

    def test_deeds_by_chance(self):
        universe = samples.Universe(BASES)
        chance = random.Random(18)
        for turn in range(60):
            rows = read_releases(chance.choice(("", "1.0 -2 1rc1", "-1 1.1 0.9", "1!0 2rc1")))
            project, model = Project(rows), Model(rows)
            names = NAMES if turn % 4 else tuple("abcdefghijklmn")
            for _ in range(chance.randrange(5, 30)):
                deed, arguments = chance.choice((
                    ("release", (chance.choice(VERSIONS + OTHER_TEXTS),)),
                    ("withdraw", (chance.choice(VERSIONS + OTHER_TEXTS),)),
                    ("want", (chance.choice(names), read_requirement(chance.choice(TEXTS)))),
                    ("want", (chance.choice(names), read_requirement(chance.choice(TEXTS)))),
                    ("forget", (chance.choice(names),)), ("undo", ())))
                told = getattr(model, deed)(*arguments)
                if told in (BadQuestion, Missing):
                    self.refused(told, arguments[0], getattr(project, deed), *arguments)
                else:
                    self.assertIs(getattr(project, deed)(*arguments), told)
                self.check_state(project, model)
            self.check_answers(project, model, universe)
            while model.undo():
                self.assertIs(project.undo(), True)
                self.check_state(project, model)
            self.assertIs(project.undo(), False)
            self.assertEqual(project.releases(), rows)

    def test_wants_against_the_functions_of_other_modules(self):
        chance = random.Random(19)
        for _ in range(300):
            texts = chance.choices(TEXTS, k=chance.randrange(5))
            rows = tuple((version, chance.random() < 0.3) for version in chance.sample(VERSIONS, chance.randrange(6)))
            project = want_texts(Project(rows), texts)
            things = tuple(read_requirement(text) for text in texts)
            together = sum(things, ())
            self.assertEqual(project.pick(), pick(together, rows))
            self.assertIs(project.lasts(), lasts(together, rows))
            self.assertIs(project.core() is None, is_open(things))
            self.assertIs(project.core() is None, not lets_nothing(together))
            self.assertEqual(project.barred("1.1"), tuple("abcd"[at] for at in bars(things, "1.1")))
            if all(len(thing) == 1 for thing in things):
                self.assertEqual(project.needless(), tuple("abcd"[at] for at in needless(together)))


class ManyClauses(Answers):

    def long(self, text):
        """A REQUIREMENT of twelve CLAUSEs, some of them again and again."""
        thing = read_requirement(text)
        return thing + thing[:1] * (12 - len(thing))

    def test_twelve_wants_of_twelve_clauses(self):
        chance = random.Random(20)
        universe = samples.Universe(BASES)
        begun = time.process_time()
        for _ in range(25):
            rows = tuple((version, chance.random() < 0.3) for version in chance.sample(VERSIONS, 12))
            texts = chance.choices(chance.choice((TEXTS[1:], WIDE)), k=12)
            model = Model(rows)
            model.wants = {name: self.long(text) for name, text in zip("abcdefghijkl", texts)}
            project = Project(rows)
            for name in "lkjihgfedcba":
                project.want(name, model.wants[name])
            self.check_answers(project, model, universe)
        self.assertLess(time.process_time() - begun, 30)

    def test_144_clauses_that_all_count(self):
        project = Project(tuple((f"1.{number}", False) for number in range(40)))
        for at, name in enumerate("abcdefghijkl"):
            project.want(name, tuple(("!=", f"1.{12 * number + at}.*") for number in range(12)))
        begun = time.process_time()
        self.assertIsNone(project.pick())
        self.assertIsNone(project.core())
        self.assertEqual(project.needless(), ())
        for number in range(144):
            self.assertEqual(project.barred(f"1.{number}.5"), ("abcdefghijkl"[number % 12],))
        self.assertIs(project.lasts(), False)
        project.want("c", project.requirement("c")[:2] + (("==", "1.*"), (">=", "1.0"), ("<", "1.144"), ("!=", "1.0")))
        self.assertEqual(project.needless(), ())
        self.assertEqual(project.core(), None)
        project.forget("d")
        self.assertEqual(project.pick(), "1.39")
        self.assertIs(project.lasts(), False)
        self.assertLess(time.process_time() - begun, 10)


class Undo(Refusals):

    def test_deed_by_deed(self):
        project = Project(read_releases("1"))
        states = [undone(project)[0]]
        for deed in (lambda: project.release("2"), lambda: project.want("a", (("<", "2"),)),
                     lambda: project.withdraw("2.0"), lambda: project.want("a", (("<", "2"),)),
                     lambda: project.want("b", ()), lambda: project.want("a", ()), lambda: project.forget("b"),
                     lambda: project.forget("a"), lambda: project.release("3.0")):
            deed()
            states.append(undone(project)[0])
        self.assertEqual(undone(project), states[::-1])
        for state in states[-2::-1]:
            self.assertIs(project.undo(), True)
            self.assertEqual(undone(project)[0], state)
        for _ in range(3):
            self.assertIs(project.undo(), False)
            self.assertEqual(project.releases(), (("1", False),))
        project.release("5")
        self.assertIs(project.undo(), True)
        self.assertIs(project.undo(), False)

    def test_what_changed_nothing(self):
        project = Project()
        for _ in range(3):
            project.want("a", (("<", "2"),))
        for names in (("a",), ("a",), ()):
            self.assertIs(project.undo(), True)
            self.assertEqual(project.names(), names)
        self.assertIs(project.undo(), False)

    def test_questions_are_no_deeds(self):
        project = want_texts(Project(read_releases("1 2")), ("<2", ">=1"))
        for _ in range(2):
            all_of(project)
        for _ in range(2):
            self.assertIs(project.undo(), True)
        self.assertIs(project.undo(), False)

    def test_what_was_asked_and_told_earlier_stays(self):
        project = Project(read_releases("1 2"))
        project.want("a", (("<", "2"),))
        told, names, thing = project.releases(), project.names(), project.requirement("a")
        project.withdraw("1")
        project.release("3")
        project.forget("a")
        self.assertEqual((told, names, thing), (read_releases("1 2"), ("a",), (("<", "2"),)))
        for _ in range(4):
            project.undo()
        self.assertEqual((told, names, thing), (read_releases("1 2"), ("a",), (("<", "2"),)))

    def test_many_deeds(self):
        project = Project()
        begun = time.process_time()
        for number in range(3000):
            project.want("a", (("<", str(number)),))
        for number in range(2999, -1, -1):
            self.assertEqual(project.requirement("a"), (("<", str(number)),))
            self.assertIs(project.undo(), True)
        self.assertIs(project.undo(), False)
        self.assertLess(time.process_time() - begun, 5)


class Oops(Exception):
    """An error of a block."""


class Trial(Refusals):

    def project(self):
        project = want_texts(Project(read_releases("1 2")), ("<2", ">=1"))
        project.release("3")
        return project

    def change(self, project):
        project.release("4.0")
        project.withdraw("1")
        project.want("z", (("==", "1"),))
        project.want("a", ())
        project.forget("b")

    def test_what_it_gives(self):
        project = self.project()
        with project.trial() as one:
            self.assertIs(one, project)

    def test_all_is_as_it_was(self):
        project = self.project()
        ahead, past = all_of(project), undone(project)
        with project.trial() as one:
            self.change(one)
            self.assertEqual(project.releases(), read_releases("-1 2 3 4.0"))
            self.assertEqual(project.names(), ("a", "z"))
            self.assertEqual(project.pick(), "1")
        self.assertEqual(all_of(project), ahead)
        self.assertEqual(undone(project), past)
        self.assertEqual(project, self.project())

    def test_an_error_goes_on(self):
        project = self.project()
        past = undone(project)
        for kind in (Oops, KeyError, PickError, KeyboardInterrupt, GeneratorExit, SystemExit):
            error = kind()
            with self.assertRaises(kind) as caught:
                with project.trial() as one:
                    self.change(one)
                    raise error
            self.assertIs(caught.exception, error)
            self.assertEqual(undone(project), past)
        with self.assertRaises(Missing):
            with project.trial() as one:
                self.change(one)
                one.forget("b")
        self.assertEqual(undone(project), past)

    def test_a_return_a_break_and_a_yield(self):
        project = self.project()
        past = undone(project)

        def returning():
            with project.trial() as one:
                self.change(one)
                return one.pick()

        def yielding():
            with project.trial() as one:
                self.change(one)
                yield one.pick()

        self.assertEqual(returning(), "1")
        self.assertEqual(undone(project), past)
        for _ in range(2):
            with project.trial() as one:
                self.change(one)
                break
        self.assertEqual(undone(project), past)
        self.assertEqual(list(yielding()), ["1"])
        self.assertEqual(undone(project), past)

    def test_one_within_another(self):
        project = self.project()
        past = undone(project)
        with project.trial():
            project.release("4")
            inner = undone(project)
            with project.trial() as one:
                self.assertIs(project.undo(), True)
                self.change(one)
                with self.assertRaises(Oops):
                    with one.trial():
                        while project.undo():
                            pass
                        project.want("q", ())
                        raise Oops()
                self.assertEqual(project.names(), ("a", "z"))
            self.assertEqual(undone(project), inner)
            project.undo()
            self.assertEqual(undone(project), past)
            project.want("q", ())
        self.assertEqual(undone(project), past)

    def test_undo_beyond_the_beginning_of_the_block(self):
        project = self.project()
        ahead, past = all_of(project), undone(project)
        with project.trial():
            project.release("9")
            for _ in range(4):
                self.assertIs(project.undo(), True)
            self.assertIs(project.undo(), False)
            self.assertEqual((project.releases(), project.names()), (read_releases("1 2"), ()))
            project.release("0")
        self.assertEqual(all_of(project), ahead)
        self.assertEqual(undone(project), past)
        for _ in range(3):
            self.assertIs(project.undo(), True)
        self.assertIs(project.undo(), False)

    def test_it_begins_with_the_block(self):
        project = self.project()
        trial = project.trial()
        project.release("4")
        past = undone(project)
        with trial:
            self.change_less(project)
        self.assertEqual(undone(project), past)
        self.assertEqual(project.releases()[-1], ("4", False))

    def change_less(self, project):
        project.undo()
        project.undo()
        project.want("q", ())

    def test_deeds_behind_the_block(self):
        project = self.project()
        past = undone(project)
        for _ in range(3):
            with project.trial() as one:
                self.change(one)
            project.want("a", ())
            self.assertIs(project.undo(), True)
            self.assertEqual(undone(project), past)

    def test_under(self):
        project = self.project()
        past = undone(project)
        thing, given = [], []

        def deed(one):
            given.append(one)
            self.change(one)
            return thing

        self.assertIs(under(project.trial(), deed), thing)
        self.assertIs(given[0], project)
        self.assertEqual(undone(project), past)
        self.assertIsNone(under(project.trial(), self.change))
        self.assertEqual(under(project.trial(), lambda one: one.undo() and one.releases()), read_releases("1 2"))
        self.assertEqual(undone(project), past)

    def test_under_with_errors(self):
        project = self.project()
        past = undone(project)
        error = Oops()

        def deed(one):
            self.change(one)
            raise error

        with self.assertRaises(Oops) as caught:
            under(project.trial(), deed)
        self.assertIs(caught.exception, error)
        self.refused(BadVersion, None, under, project.trial(), lambda one: one.release("x"))
        self.refused(Missing, "x", under, project.trial(), lambda one: one.forget("x"))
        self.assertEqual(undone(project), past)

    def test_under_within_under(self):
        project = self.project()
        past = undone(project)

        def outer(one):
            one.release("7")
            inner = under(one.trial(), lambda two: two.release("8") or two.releases())
            return inner, one.releases()

        self.assertEqual(under(project.trial(), outer), (read_releases("1 2 3 7 8"), read_releases("1 2 3 7")))
        self.assertEqual(undone(project), past)

    def test_under_another_manager(self):
        class Manager:
            def __init__(self):
                self.told = []

            def __enter__(self):
                self.told.append("in")
                return self.told

            def __exit__(self, *told):
                self.told.append(told[0])

        manager = Manager()
        self.assertIs(under(manager, lambda one: one), manager.told)
        self.assertEqual(manager.told, ["in", None])
        with self.assertRaises(Oops):
            under(manager, lambda one: self.raise_oops())
        self.assertEqual(manager.told, ["in", None, "in", Oops])

    def raise_oops(self):
        raise Oops()


class Equal(Refusals):

    def check(self, one, other, wanted):
        for here, there in ((one, other), (other, one)):
            self.assertIs(here == there, wanted)
            self.assertIs(here != there, not wanted)

    def test_releases(self):
        rows = "1.0 -2 3"
        self.check(Project(), Project(), True)
        self.check(Project(read_releases(rows)), Project(read_releases(rows)), True)
        for other in ("1 -2 3", "1.0 -2.0 3", "-2 1.0 3", "1.0 2 3", "-1.0 -2 3", "1.0 -2", "1.0 -2 3 4", "",
                      "1.0 -2 0!3"):
            self.check(Project(read_releases(rows)), Project(read_releases(other)), False)

    def test_wants(self):
        one = want_texts(Project(), (">=1", "<2"))
        other = Project()
        other.want("b", (("<", "2"),))
        self.check(one, other, False)
        other.want("a", ((">=", "1"),))
        self.check(one, other, True)
        for name, text in (("a", ">=1.0"), ("a", ""), ("b", "<2,<2"), ("c", ""), ("a", ">=1,<2")):
            with other.trial():
                other.want(name, read_requirement(text))
                self.check(one, other, False)
        self.check(one, other, True)
        for name in "ab":
            with other.trial():
                other.forget(name)
                self.check(one, other, False)
        one.want("c", read_requirement(">=1,<2"))
        other.want("c", read_requirement("<2,>=1"))
        self.check(one, other, False)
        self.check(want_texts(Project(), ("",)), Project(), False)

    def test_how_it_came_counts_for_nothing(self):
        one, other = Project(), Project((("1.0", False), ("2", False)))
        one.release("1.0")
        self.check(one, other, False)
        one.release("2")
        self.check(one, other, True)
        one.want("a", ())
        one.forget("a")
        self.check(one, other, True)
        one.withdraw("2")
        self.check(one, other, False)
        one.undo()
        self.check(one, other, True)
        other.withdraw("2")
        one.withdraw("2.0")
        self.check(one, other, True)
        while one.undo():
            pass
        self.check(one, Project(), True)

    def test_what_is_no_project(self):
        project = Project()
        for thing in samples.no_strings() + [(), "", project.releases(), project.trial(), 0]:
            if not isinstance(thing, samples.Unequal):
                self.check(project, thing, False)
        self.assertIs(project == samples.Unequal(), False)
        self.assertIs(project != samples.Unequal(), True)
        self.assertNotIn(project, [None, 1, ()])


class SideBySide(Refusals):

    def test_two_projects(self):
        rows = read_releases("1 2")
        one, other = Project(rows), Project(rows)
        one.release("3")
        one.want("a", (("<", "2"),))
        one.withdraw("1")
        self.assertEqual(undone(other), [(rows, [])])
        other.want("b", ())
        self.assertEqual((one.names(), other.names()), (("a",), ("b",)))
        with one.trial():
            one.undo()
            other.release("5")
            with other.trial():
                while other.undo():
                    pass
            one.undo()
        self.assertEqual(one.releases(), read_releases("-1 2 3"))
        self.assertEqual((one.names(), other.names()), (("a",), ("b",)))
        self.assertEqual(other.releases(), read_releases("1 2 5"))
        self.assertEqual([other.undo() for _ in range(3)], [True, True, False])
        self.assertEqual([one.undo() for _ in range(4)], [True, True, True, False])

    def test_two_that_begin_with_nothing(self):
        one, other = Project(), Project()
        one.release("1")
        one.want("a", ())
        self.assertEqual(undone(other), [((), [])])
        self.assertEqual(undone(Project()), [((), [])])


if __name__ == "__main__":
    unittest.main()
