"""The errors of the package."""


class PageError(Exception):
    """What all errors of the package are."""


class BadValue(PageError):
    """An argument is wrong; at is its place, from 1 on."""

    def __init__(self, at):
        self.at = at


class BadLine(PageError):
    """A line of a plan is wrong; at is its number."""

    def __init__(self, at):
        self.at = at


class BadSyntax(PageError):
    """A line of a text or log is wrong; at is its number, 0 for a command."""

    def __init__(self, at):
        self.at = at
