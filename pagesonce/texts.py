"""Printers and plans as texts."""

from pagesonce.errors import BadSyntax, BadValue
from pagesonce.plans import BARE_WORDS, TESTS, Plan, Printer

MOST_DIGITS = 4
DIGITS = "0123456789"
# The words of a printer, place by place: without the ability, and with it.
ABILITIES = (("blind", "counts"), ("forgets", "remembers"), ("silent", "tells"))


def printed(value):
    """The text of a printer or a plan."""
    if isinstance(value, Printer):
        return _printer_text(value)
    if isinstance(value, Plan):
        return _plan_text(value)
    raise BadValue(1)


def _printer_text(printer):
    words = ["printer"]
    for pair, able in zip(ABILITIES, (printer.counts, printer.remembers, printer.tells)):
        words.append(pair[1] if able else pair[0])
    return " ".join(words) + "\n"


def _plan_text(plan):
    rows = ["plan\n"]
    for line in plan.lines:
        rows.append(" ".join([str(word) for word in line]) + "\n")
    return "".join(rows)


def parse(text):
    """The printer or plan that a text tells."""
    if not isinstance(text, str):
        raise BadValue(1)
    rows, rest = split_lines(text)
    if not rows:
        raise BadSyntax(0)
    if rows[0] == "plan":
        return Plan(_plan_lines(rows, rest))
    abilities = _abilities(rows[0])
    if abilities is None:
        raise BadSyntax(0)
    if len(rows) > 1 or rest != "":
        raise BadSyntax(1)
    counts, remembers, tells = abilities
    return Printer(counts, remembers, tells)


def split_lines(text):
    """The lines of a text that a line feed ends, and what stands behind them."""
    rows = text.split("\n")
    rest = rows.pop()
    return (rows, rest)


def _abilities(row):
    """The three abilities that a line tells of a printer, or None if it tells none."""
    words = row.split(" ")
    if len(words) != 4 or words[0] != "printer":
        return None
    found = []
    for word, pair in zip(words[1:], ABILITIES):
        if word not in pair:
            return None
        found.append(word == pair[1])
    return found


def _plan_lines(rows, rest):
    """The lines of a plan whose text has these rows, the word plan first, and this behind them."""
    lines = []
    for at, row in enumerate(rows[1:], start=1):
        line = _line(row)
        if line is None:
            raise BadSyntax(at)
        lines.append(line)
    if rest != "" or not lines:
        raise BadSyntax(len(rows))
    return lines


def _line(row):
    """The line of a plan that a row of a text tells, or None if it tells none."""
    words = row.split(" ")
    if len(words) == 1 and words[0] in BARE_WORDS:
        return (words[0],)
    if len(words) == 2 and words[0] == "go" and is_numeral(words[1]):
        return ("go", int(words[1]))
    if len(words) == 3 and words[0] == "if" and words[1] in TESTS and is_numeral(words[2]):
        return ("if", words[1], int(words[2]))
    return None


def is_numeral(word):
    """Whether a word is a number of at most four digits without zeros in front."""
    if not 1 <= len(word) <= MOST_DIGITS or not all([sign in DIGITS for sign in word]):
        return False
    return word == "0" or word[0] != "0"
