"""The errors by which a text, a paper, a factor or a run is refused."""


class Refused(ValueError):
    """What all errors of this package have in common."""


class Malformed(Refused):
    """A token that is not well formed, or that does not fit the grammar."""

    def __init__(self, at):
        self.at = at


class Oversized(Refused):
    """More than the limit of this name allows."""

    def __init__(self, limit):
        self.limit = limit


class Unknown(Refused):
    """A name that means nothing where it stands."""

    def __init__(self, name, at):
        self.name = name
        self.at = at


class Clashing(Refused):
    """A name that is given a second meaning."""

    def __init__(self, name, at):
        self.name = name
        self.at = at


class Mistaken(Refused):
    """Something of a wrong kind, number or size; the why is one word."""

    def __init__(self, at, why):
        self.at = at
        self.why = why


class Unfit(Refused):
    """A line that no dimensions fit, with the paper that shows it."""

    def __init__(self, name, paper):
        self.name = name
        self.paper = paper


class BadPaper(Refused):
    """A paper that does not show what it should."""

    def __init__(self, why):
        self.why = why


class BadFactor(Refused):
    """A base unit whose factor is not one."""

    def __init__(self, name):
        self.name = name


class Mixed(Refused):
    """Quantities of unlike dimensions that meet in a run."""

    def __init__(self, at):
        self.at = at


class Halted(Refused):
    """The early end of a run; it does not leave the run."""

    def __init__(self, why):
        self.why = why
