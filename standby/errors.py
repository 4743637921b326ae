"""The refusals: each has the fields with which it is made."""


class Unlike(ValueError):
    """What was handed in together is not of the same people."""


class Alike(ValueError):
    """One and the same person, where two unlike ones are wanted."""

    def __init__(self, name):
        ValueError.__init__(self, f"{name!r} is handed in twice")
        self.name = name


class BadText(ValueError):
    """A text whose part of this number is not rightly written."""

    def __init__(self, at):
        ValueError.__init__(self, f"part {at} is not rightly written")
        self.at = at


class BadRow(ValueError):
    """A text for the desk whose row of this number is not rightly written."""

    def __init__(self, row):
        ValueError.__init__(self, f"row {row} is not rightly written")
        self.row = row


class BadDeed(ValueError):
    """Deeds of which the one of this number is none."""

    def __init__(self, at):
        ValueError.__init__(self, f"deed {at} is none")
        self.at = at


class NoName(LookupError):
    """A name that nobody there has."""

    def __init__(self, name):
        LookupError.__init__(self, f"nobody here is called {name!r}")
        self.name = name


class NoPlace(LookupError):
    """A place to which nobody can come."""

    def __init__(self, place):
        # Any number may be refused, also one of so many figures that Python does not write it out.
        LookupError.__init__(self, "nobody can come to this place")
        self.place = place


class NoNumber(LookupError):
    """A number that no call has."""

    def __init__(self, number):
        # Not written out, as with NoPlace.
        LookupError.__init__(self, "no call has this number")
        self.number = number


class NoDeed(LookupError):
    """A number of deeds that do not stand."""

    def __init__(self, many):
        # Not written out, as with NoPlace.
        LookupError.__init__(self, "so many deeds do not stand")
        self.many = many


class Never(RuntimeError):
    """A row that cannot have come about, with a ring of wants that shows it."""

    def __init__(self, ring):
        # The maker's own list is kept nowhere, so that a change of it is not seen here.
        RuntimeError.__init__(self, f"these wants go round: {tuple(ring)}")
        self.ring = list(ring)


class Known(RuntimeError):
    """A name that somebody there has already."""

    def __init__(self, name):
        RuntimeError.__init__(self, f"somebody here is called {name!r} already")
        self.name = name


class Last(RuntimeError):
    """The only one there, who cannot leave."""
