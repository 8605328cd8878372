"""Points [17] and [18]: the desk, its lines and their answers."""

import unittest

import samples
from pickedrelease.desk import Desk
from pickedrelease.errors import Missing
from pickedrelease.picking import releases_text
from pickedrelease.project import Project

# Lines and their answers, one behind the other, each row on a new desk.
TALKS = (
    (("list", ""), ("wants", "none"), ("pick", "none"), ("core", "open"), ("barred 1", "none"), ("undo", "nothing"),
     ("lasts", "no, "),),
    (("release 1.0", "done"), ("list", "1.0"), ("pick", "1.0"), ("release 0!2rc1", "done"), ("list", "1.0 0!2rc1"),
     ("pick", "1.0"), ("withdraw 1", "done"), ("list", "-1.0 0!2rc1"), ("pick", "0!2rc1"), ("withdraw 2.0rc1", "done"),
     ("list", "-1.0 -0!2rc1"), ("pick", "none"), ("want a ==1.0.0", "done"), ("pick", "1.0"), ("undo", "done"),
     ("pick", "none"), ("undo", "done"), ("pick", "0!2rc1"), ("undo", "done"), ("undo", "done"), ("list", "1.0"),
     ("undo", "done"), ("list", ""), ("undo", "nothing"), ("undo", "nothing")),
    (("want web >=1.0,!=1.4.*", "done"), ("wants", "web=>=1.0,!=1.4.*"), ("want a", "done"),
     ("wants", "a=\nweb=>=1.0,!=1.4.*"), ("want zzzzzzzz ~=1.4", "done"),
     ("wants", "a=\nweb=>=1.0,!=1.4.*\nzzzzzzzz=~=1.4"), ("want web ==1", "done"),
     ("wants", "a=\nweb===1\nzzzzzzzz=~=1.4"), ("forget a", "done"), ("wants", "web===1\nzzzzzzzz=~=1.4"),
     ("forget a", "no"), ("forget web", "done"), ("forget zzzzzzzz", "done"), ("wants", "none"), ("undo", "done"),
     ("wants", "zzzzzzzz=~=1.4")),
    (("want a ", "done"), ("wants", "a="), ("want b", "done"), ("wants", "a=\nb="), ("core", "open"), ("undo", "done"),
     ("undo", "done"), ("wants", "none"), ("undo", "nothing")),
    (("want c >=2", "done"), ("want a <1", "done"), ("want b", "done"), ("core", "a c"), ("barred 1", "a c"),
     ("barred 0!2.0", "a"), ("barred 0", "c"), ("want d <0", "done"), ("forget a", "done"), ("core", "d"),
     ("barred 3", "d"), ("forget d", "done"), ("core", "open"), ("barred 3", "none"), ("barred 2.0.0rc1", "c")),
    (("want a ==1", "done"), ("lasts", "no, 1"), ("release 1.0", "done"), ("lasts", "yes"),
     ("want a >=1.0,<=1", "done"), ("lasts", "yes"), ("want b <0", "done"), ("lasts", "yes"), ("undo", "done"),
     ("withdraw 1", "done"), ("lasts", "yes"), ("want a <=0.dev1", "done"), ("release 0.dev0", "done"),
     ("lasts", "no, 0.dev1"), ("withdraw 0.dev0", "done"), ("lasts", "no, 0.dev1"), ("release 0.0.dev1", "done"),
     ("lasts", "yes"), ("pick", "0.0.dev1"), ("list", "-1.0 -0.dev0 0.0.dev1")),
)

# Lines that are none, whatever is at the desk.
NO_LINES = (
    "", " ", "\n", "x", "no", "done", "none", "open", "picks", "pic", "trial", "needless", "names", "releases",
    "breaker", "requirement a", "project", "1.0", "a", "say", "say pick",
    # Blanks ahead, behind or two between.
    " pick", "pick ", " core", "core ", " lasts", "lasts ", " list", "list ", " wants", "wants ", " undo", "undo ",
    " release 9", "release 9 ", "release  9", " withdraw 1", "withdraw 1 ", "withdraw  1", " want b >=1", "want  b >=1",
    "want b  >=1", "want b >=1 ", "want b  ", "want  b", " want b", " forget a", "forget a ", "forget  a", " barred 1",
    "barred 1 ", "barred  1", "want b >=1, <2", "want b >=1 ,<2",
    # Capitals.
    "Pick", "PICK", "Core", "Lasts", "List", "Wants", "Undo", "UNDO", "Release 9", "RELEASE 9", "Withdraw 1", "Want b",
    "Forget a", "Barred 1", "want B >=1", "want Web", "forget A", "release 9RC1",
    # A word more or less.
    "pick 1", "pick a", "core a", "lasts 1", "list 1", "wants a", "undo 1", "undo undo", "release", "release ",
    "withdraw", "withdraw ", "want", "want ", "forget", "forget ", "barred", "barred ", "release 9 10", "release a 9",
    "withdraw 1 2", "forget a b", "barred 1 2", "want b >=1 <2", "want b c", "want b >=1 c", "pick pick", "release9",
    "wantb", "want>=1",
    # A newline in it.
    "pick\n", "\npick", "core\n", "lasts\n", "list\n", "wants\n", "undo\n", "release 9\n", "release\n9", "\nrelease 9",
    "withdraw 1\n", "want b\n", "want\nb", "want b\n>=1", "want b >=1\n", "forget a\n", "barred 1\n", "pick\nundo",
    "release 9\nrelease 10", "want b >=1,\n<2",
    # What is no VERSION, no name, no REQUIREMENT.
    "release 01", "release x", "release 9.*", "release -9", "release ==9", "withdraw 01", "withdraw -1", "barred 1.*",
    "barred x", "barred ==1", "want 1", "want b1", "want abcdefghi", "want ,", "want >=1", "want b 1", "want b >= 1",
    "want b >=01", "want b >=1,", "want b ,>=1", "want b ,", "want b =1", "want b ===1", "want b <1rc1", "want b ~=1",
    "want b >=1,,<2", "want b=>=1", "want b >=1;<2", "forget 1", "forget abcdefghi", "forget >=1",
    "want b >=1.0.0.0.0.0.0.0.0", "want b >=1000000001", "want b " + ",".join([">=1"] * 13),
    # What is there, or is not.
    "release 1", "release 1.0", "release 0!2", "withdraw 2", "withdraw 3", "withdraw 1rc1", "forget b", "forget web",
)


def state(desk):
    """What a desk tells of its Project, and what can be undone."""
    told = [desk.say(line) for line in ("list", "wants", "pick", "core", "lasts", "barred 1", "barred 3")]
    with desk.project.trial() as project:
        while project.undo():
            told.append((project.releases(), project.names(), [project.requirement(name) for name in project.names()]))
    return told


class Talks(unittest.TestCase):

    def test_the_interface(self):
        self.assertEqual(Desk.__module__, "pickedrelease.desk")
        self.assertIn("say", vars(Desk))
        self.assertIs(type(Desk().project), Project)
        self.assertEqual(Desk().project, Project())
        self.assertIs(Desk().project.undo(), False)

    def test_talks(self):
        for talk in TALKS:
            desk = Desk()
            for line, answer in talk:
                told = desk.say(line)
                self.assertIs(type(told), str)
                if answer == "no, ":
                    self.assertTrue(told.startswith(answer), (line, told))
                else:
                    self.assertEqual(told, answer, (line, talk))

    def test_a_breaker(self):
        desk = Desk()
        for line in ("release 1", "want a >=1,<3"):
            desk.say(line)
        told = desk.say("lasts")
        self.assertEqual(told, "no, " + desk.project.breaker())
        version = told.removeprefix("no, ")
        self.assertEqual(desk.say("release " + version), "done")
        self.assertEqual(desk.say("pick"), version)

    def test_one_word_texts_of_no_want(self):
        # These are names, too.
        desk = Desk()
        for name in ("none", "open", "no", "want", "pick", "undo"):
            self.assertEqual(desk.say("want " + name), "done")
            self.assertEqual(desk.say("want " + name + " <0"), "done")
            self.assertEqual(desk.say("core"), name)
            self.assertEqual(desk.say("barred 1"), name)
            self.assertEqual(desk.say("forget " + name), "done")

    def test_every_sign(self):
        desk = Desk()
        for at, text in enumerate((">=1", "<=1", "==1", "!=1", "<1", ">1", "~=1.0", "==1.*", "!=1.*",
                                   "==1!1.0rc1.post2.dev3", "<=1,>=1,~=1.0,!=1.*")):
            name = "abcdefghijkl"[at]
            self.assertEqual(desk.say(f"want {name} {text}"), "done")
            self.assertEqual(desk.say("wants").split("\n")[at], f"{name}={text}")

    def test_forty_releases_and_twelve_wants(self):
        desk = Desk()
        for number in range(40):
            self.assertEqual(desk.say(f"release 1.{number}"), "done")
        self.assertEqual(desk.say("release 2"), "no")
        for name in "lkjihgfedcba":
            self.assertEqual(desk.say(f"want {name} " + ",".join([">=1"] * 12)), "done")
        self.assertEqual(desk.say("want m"), "no")
        self.assertEqual(desk.say("want m >=1"), "no")
        self.assertEqual(desk.say("want a <1.5"), "done")
        self.assertEqual(desk.say("pick"), "1.4")
        self.assertEqual(desk.say("list"), " ".join(f"1.{number}" for number in range(40)))
        self.assertEqual(len(desk.say("wants").split("\n")), 12)
        for _ in range(53):
            self.assertEqual(desk.say("undo"), "done")
        self.assertEqual(desk.say("undo"), "nothing")


class NoLines(unittest.TestCase):

    def desk(self):
        desk = Desk()
        for line in ("release 1.0", "release 2", "want a >=1", "withdraw 2"):
            self.assertEqual(desk.say(line), "done")
        return desk

    def stays(self, desk, line):
        ahead = state(desk)
        for _ in range(2):
            told = desk.say(line)
            self.assertIs(type(told), str)
            self.assertEqual(told, "no")
        self.assertEqual(state(desk), ahead)

    def test_no_lines(self):
        desk = self.desk()
        for line in NO_LINES:
            self.stays(desk, line)

    def test_no_lines_at_a_new_desk(self):
        desk = Desk()
        for line in NO_LINES:
            if line not in ("release 1", "release 1.0", "release 0!2"):
                self.stays(desk, line)

    def test_other_kinds(self):
        desk = self.desk()
        for thing in samples.no_strings() + [b"pick", ["pick"], ("pick",), {"pick"}, {"pick": "undo"}, ("release", "9"),
                                             ["release", "9"], b"undo", desk, desk.project]:
            self.stays(desk, thing)

    def test_wrong_versions(self):
        desk = self.desk()
        for version in samples.BAD_VERSIONS + ("1" * 25, samples.long_version(61)):
            for word in ("release", "withdraw", "barred"):
                self.stays(desk, f"{word} {version}")


class TheProject(unittest.TestCase):

    def test_it_is_the_very_one(self):
        desk = Desk()
        project = desk.project
        desk.say("release 1.0")
        self.assertIs(desk.project, project)
        self.assertEqual(project.releases(), (("1.0", False),))
        project.release("2")
        project.want("web", (("!=", "3"),))
        self.assertEqual(desk.say("list"), "1.0 2")
        self.assertEqual(desk.say("wants"), "web=!=3")
        self.assertEqual(desk.say("undo"), "done")
        self.assertEqual(project.names(), ())
        desk.say("want b <2")
        self.assertEqual(project.requirement("b"), (("<", "2"),))
        self.assertEqual(project.pick(), "1.0")
        self.assertIs(project.undo(), True)
        self.assertIs(project.undo(), True)
        self.assertEqual(desk.say("list"), "1.0")
        self.assertEqual(desk.say("undo"), "done")
        self.assertEqual(desk.say("undo"), "nothing")
        self.assertIs(desk.project, project)

    def test_lines_within_a_trial(self):
        desk = Desk()
        desk.say("release 1.0")
        with desk.project.trial():
            self.assertEqual(desk.say("release 2"), "done")
            self.assertEqual(desk.say("want a >=3"), "done")
            self.assertEqual((desk.say("list"), desk.say("pick")), ("1.0 2", "none"))
            for _ in range(3):
                self.assertEqual(desk.say("undo"), "done")
            self.assertEqual(desk.say("undo"), "nothing")
        self.assertEqual((desk.say("list"), desk.say("wants"), desk.say("pick")), ("1.0", "none", "1.0"))
        self.assertEqual((desk.say("undo"), desk.say("undo")), ("done", "nothing"))

    def test_other_texts_of_a_version(self):
        desk = Desk()
        desk.say("release 1.0.0")
        self.assertEqual(desk.say("release 0!1"), "no")
        self.assertEqual(desk.say("pick"), "1.0.0")
        self.assertEqual(desk.say("withdraw 0!1"), "done")
        self.assertEqual(desk.say("list"), releases_text((("1.0.0", True),)))
        self.assertEqual(desk.say("want a ==1"), "done")
        self.assertEqual(desk.say("pick"), "1.0.0")
        with self.assertRaises(Missing):
            desk.project.withdraw("2")

    def test_two_desks(self):
        one, other = Desk(), Desk()
        self.assertIsNot(one.project, other.project)
        one.say("release 1")
        one.say("want a >=1")
        self.assertEqual((other.say("list"), other.say("wants"), other.say("undo")), ("", "none", "nothing"))
        other.say("release 2")
        self.assertEqual((one.say("list"), other.say("list")), ("1", "2"))
        one.say("undo")
        one.say("undo")
        self.assertEqual((one.say("undo"), other.say("list")), ("nothing", "2"))
        self.assertEqual(Desk().say("list"), "")


if __name__ == "__main__":
    unittest.main()
