"""The errors of the package."""


class PickError(ValueError):
    """Any argument that is refused."""


class BadRequirement(PickError):
    """What is no REQUIREMENT; place tells where."""

    def __init__(self, place):
        PickError.__init__(self, f"no requirement, at {place}")
        self.place = place


class BadReleases(PickError):
    """What is no LIST; place tells where."""

    def __init__(self, place):
        PickError.__init__(self, f"no list of releases, at {place}")
        self.place = place


class BadText(PickError):
    """What is no text of a REQUIREMENT or a LIST; place tells where."""

    def __init__(self, place):
        PickError.__init__(self, f"no such text, at {place}")
        self.place = place


class BadVersion(PickError):
    """What is no VERSION."""


class BadQuestion(PickError):
    """What cannot be asked or done."""


class Missing(KeyError):
    """A name or a version that is not there; name is what was passed."""

    def __init__(self, name):
        # The name can be anything, so the message does not try to show it.
        KeyError.__init__(self, "nothing has this name")
        self.name = name
