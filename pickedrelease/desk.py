"""A desk: a Project that lines of text work on."""

from pickedrelease.errors import Missing, PickError
from pickedrelease.picking import releases_text
from pickedrelease.project import Project
from pickedrelease.requirements import read_requirement, requirement_text

DONE = "done"
NO = "no"
NONE = "none"


def do_release(project, version):
    """Put a further RELEASE in."""
    project.release(version)
    return DONE


def do_withdraw(project, version):
    """Make a RELEASE WITHDRAWN."""
    project.withdraw(version)
    return DONE


def do_want(project, words):
    """Put a want in, by its name and the text of its REQUIREMENT."""
    name, _, text = words.partition(" ")
    project.want(name, read_requirement(text))
    return DONE


def do_forget(project, name):
    """Take a want away."""
    project.forget(name)
    return DONE


def tell_barred(project, version):
    """The names of the wants that do not let a VERSION in."""
    return " ".join(project.barred(version)) or NONE


def tell_pick(project):
    """The PICK."""
    version = project.pick()
    return NONE if version is None else version


def tell_core(project):
    """The names of a CORE of the wants."""
    names = project.core()
    return "open" if names is None else " ".join(names)


def tell_lasts(project):
    """Whether the PICK LASTS, and a BREAKER if not."""
    version = project.breaker()
    return "yes" if version is None else f"no, {version}"


def tell_list(project):
    """The text of the LIST."""
    return releases_text(project.releases())


def tell_wants(project):
    """The wants, a row each."""
    rows = [f"{name}={requirement_text(project.requirement(name))}" for name in project.names()]
    return "\n".join(rows) or NONE


def do_undo(project):
    """Take the last deed back."""
    return DONE if project.undo() else "nothing"


# The lines that are one word, and the words that stand ahead of something.
LINES = {"pick": tell_pick, "core": tell_core, "lasts": tell_lasts, "list": tell_list, "wants": tell_wants,
         "undo": do_undo}
WORDS = {"release": do_release, "withdraw": do_withdraw, "want": do_want, "forget": do_forget, "barred": tell_barred}


def answer(project, line):
    """The answer to a line."""
    if line in LINES:
        action = LINES[line]
        return action(project)
    # Without a space nothing stands behind the word, and none of these deeds takes that.
    word, _, rest = line.partition(" ")
    if word not in WORDS:
        return NO
    deed = WORDS[word]
    return deed(project, rest)


class Desk:
    """A Project, and what lines tell of it and do to it."""

    def __init__(self):
        self.project = Project()

    def say(self, line):
        """The answer to a line."""
        if not isinstance(line, str):
            return NO
        try:
            return answer(self.project, line)
        except (PickError, Missing):
            return NO
