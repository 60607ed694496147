"""Printers, plans, and whether a plan fits a printer."""

from pagesonce.errors import BadLine, BadValue
from pagesonce.values import is_flag, is_number, is_sequence

MOST_LINES = 16
BARE_WORDS = ("recall", "note", "count", "add", "send", "wait", "end")
TESTS = ("done", "ok")
LAST_WORDS = ("end", "go")


class Printer:
    """What a printer can do: count its tray, remember the last sheet, tell a jam."""

    def __init__(self, counts, remembers, tells):
        if not is_flag(counts):
            raise BadValue(1)
        if not is_flag(remembers):
            raise BadValue(2)
        if not is_flag(tells):
            raise BadValue(3)
        self._counts = counts
        self._remembers = remembers
        self._tells = tells

    def __eq__(self, other):
        return (isinstance(other, Printer) and self._counts == other._counts
                and self._remembers == other._remembers and self._tells == other._tells)

    @property
    def counts(self):
        """Whether the printer counts the sheets in the tray."""
        return self._counts

    @property
    def remembers(self):
        """Whether the printer takes no sheet that is not above the last one."""
        return self._remembers

    @property
    def tells(self):
        """Whether the printer tells that a sheet has jammed."""
        return self._tells


class Plan:
    """The lines that a house follows, from line 0 on and anew behind each cut."""

    def __init__(self, lines):
        if not is_sequence(lines) or not 1 <= len(lines) <= MOST_LINES:
            raise BadValue(1)
        for at, line in enumerate(lines):
            if not _is_line(line, len(lines)):
                raise BadLine(at)
        bottom = len(lines) - 1
        if lines[bottom][0] not in LAST_WORDS:
            raise BadLine(bottom)
        self._lines = tuple([tuple(line) for line in lines])

    def __eq__(self, other):
        return isinstance(other, Plan) and self._lines == other._lines

    def __len__(self):
        return len(self._lines)

    @property
    def lines(self):
        """The lines, as a tuple of tuples."""
        return self._lines


def _is_line(value, many):
    """Whether a value is a line of a plan of so many lines."""
    if not is_sequence(value):
        return False
    if len(value) == 1:
        return value[0] in BARE_WORDS
    if len(value) == 2:
        return value[0] == "go" and is_number(value[1], 0, many - 1)
    if len(value) == 3:
        return value[0] == "if" and value[1] in TESTS and is_number(value[2], 0, many - 1)
    return False


def asks_count(plan):
    """Whether a plan has a line that asks the printer's count."""
    return ("count",) in plan.lines


def check_fit(printer, plan):
    """Raise BadValue unless these are a printer and a plan that fits it."""
    if not isinstance(printer, Printer):
        raise BadValue(1)
    if not isinstance(plan, Plan):
        raise BadValue(2)
    if asks_count(plan) and not printer.counts:
        raise BadValue(2)
