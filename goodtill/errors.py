"""The errors of the program, each with what was at fault."""


class OwnError(ValueError):
    """The base class of all errors that the program raises."""


class BadFraction(OwnError):
    """A value is no fraction."""

    def __init__(self, at):
        self.at = at


class BadLabel(OwnError):
    """A value is no label."""

    def __init__(self, at):
        self.at = at


class BadName(OwnError):
    """A value is no name."""

    def __init__(self, at):
        self.at = at


class BadOctets(OwnError):
    """Octets are not what was to be read."""

    def __init__(self, at):
        self.at = at


class BadEvent(OwnError):
    """A value is no event, or no entry."""

    def __init__(self, at):
        self.at = at


class BadView(OwnError):
    """A value is no view."""

    def __init__(self, at):
        self.at = at


class BadRoster(OwnError):
    """A value is no roster."""

    def __init__(self, at):
        self.at = at


class BadRun(OwnError):
    """A value is no run."""

    def __init__(self, at):
        self.at = at


class BadDeed(OwnError):
    """A deed may not be done here."""

    def __init__(self, at):
        self.at = at


class BadText(OwnError):
    """A text is not what was to be read."""

    def __init__(self, at):
        self.at = at


class Refused(OwnError):
    """What was asked for is not there, or cannot be."""

    def __init__(self, value):
        self.value = value
