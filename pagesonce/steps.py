"""What a house and its printer do at a moment, choice by choice.

A moment is (line, at, ok, note, way, last, lying).
"""

from pagesonce.plans import asks_count
from pagesonce.values import is_integer

GO_ON = 0
LIE = 1
JAM = 2
CUT_LYING = 3
CUT_LOSING = 4
CUT = 5

FIRST_MOMENT = (0, 0, False, 0, None, 0, 0)


class House:
    """A printer and a plan that fits it, as the steps ask for them."""

    def __init__(self, printer, plan):
        self.rows = plan.lines
        self.piling = asks_count(plan)
        self.remembering = printer.remembers
        self.telling = printer.tells


def is_sheet(way):
    """Whether a sheet is on its way, not something to be told or nothing."""
    return isinstance(way, int)


def open_choices(house, moment):
    """The ascending tuple of the choices at a moment."""
    line = moment[0]
    if not is_sheet(moment[4]):
        return () if line is None else (GO_ON, CUT)
    if line is None:
        return (LIE, JAM)
    if house.rows[line][0] in ("send", "wait"):
        return (LIE, JAM, CUT_LYING, CUT_LOSING)
    return (GO_ON, LIE, JAM, CUT_LYING, CUT_LOSING)


def is_choice(house, moment, value):
    """Whether a value is one of the choices at a moment."""
    return is_integer(value) and value in open_choices(house, moment)


def run_choice(house, moment):
    """The choice when nothing comes between: going on, or else lying; None at the end."""
    options = open_choices(house, moment)
    # Going on is the first of the choices, the sheet's coming to lie the next.
    return options[0] if options else None


def rises(moment, choice):
    """Whether last becomes greater by a choice."""
    return choice in (LIE, CUT_LYING) and moment[4] > moment[5]


def after(house, pages, moment, choice):
    """The moment behind one of the choices at a moment."""
    if choice == GO_ON:
        return _gone_on(house, pages, moment)
    if choice == LIE:
        return _to_be_told(_laid(house, moment), True)
    if choice == JAM:
        return _to_be_told(moment, not house.telling)
    if choice == CUT_LYING:
        return _cut(_laid(house, moment))
    return _cut(moment)


def _gone_on(house, pages, moment):
    line, at, ok, note, way, last, lying = moment
    row = house.rows[line]
    word = row[0]
    if word == "recall":
        at = note
    elif word == "note":
        note = at
    elif word == "count":
        at = lying
    elif word == "add":
        at = at + 1
    elif word == "send":
        way = at
    elif word == "wait" and way is not None:
        ok = way[1]
        way = None
    return (_next_line(row, line, pages, at, ok), at, ok, note, way, last, lying)


def _next_line(row, line, pages, at, ok):
    word = row[0]
    if word == "end":
        return None
    if word == "go":
        return row[1]
    if word == "if" and (at >= pages if row[1] == "done" else ok):
        return row[2]
    return line + 1


def puts(house, sheet, last):
    """Whether the printer puts a sheet that comes to lie into the tray."""
    return sheet > last or not house.remembering


def _laid(house, moment):
    """The moment with the sheet in the tray; way is as it was."""
    line, at, ok, note, way, last, lying = moment
    if not puts(house, way, last):
        return moment
    if house.piling:
        lying = lying + 1
    return (line, at, ok, note, way, max(last, way), lying)


def _to_be_told(moment, word):
    line, at, ok, note, _, last, lying = moment
    return (line, at, ok, note, ("told", word), last, lying)


def _cut(moment):
    _, _, _, note, _, last, lying = moment
    return (0, 0, False, note, None, last, lying)
