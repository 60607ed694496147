"""What a job costs when nothing comes between, and twin courses."""

from pagesonce.errors import BadValue
from pagesonce.plans import Printer, check_fit
from pagesonce.promises import SLACK, check_promise
from pagesonce.runs import ENDED, run_from
from pagesonce.steps import CUT_LOSING, CUT_LYING, FIRST_MOMENT, GO_ON, House, after, is_sheet
from pagesonce.values import is_number

MOST_PAGES = 300


def costs(printer, plan, promise, pages):
    """(notes, sheets, steps) of a job when nothing comes between; None if it breaks the promise."""
    check_fit(printer, plan)
    check_promise(promise, 3)
    if not is_number(pages, 0, MOST_PAGES):
        raise BadValue(4)
    outcome, tally = run_from(House(printer, plan), promise, pages, FIRST_MOMENT)
    return tally if outcome == ENDED else None


def twins(printer, plan, pages):
    """Two courses that look alike to the house, or None if no sheet is ever on its way."""
    if isinstance(printer, Printer) and (printer.counts or printer.remembers):
        raise BadValue(1)
    check_fit(printer, plan)
    if not is_number(pages, 1, MOST_PAGES):
        raise BadValue(3)
    many = _choices_to_a_sheet(House(printer, plan), pages)
    if many is None:
        return None
    ahead = (GO_ON,) * many
    return (ahead + (CUT_LYING,), ahead + (CUT_LOSING,))


def _choices_to_a_sheet(house, pages):
    """How often the house goes on until the first sheet is on its way; None if it loses its way."""
    moment = FIRST_MOMENT
    passed = {}
    while moment not in passed:
        line, at, _, note, way, _, _ = moment
        if is_sheet(way):
            return len(passed)
        if line is None or at > SLACK or note > SLACK:
            return None
        passed[moment] = True
        moment = after(house, pages, moment, GO_ON)
    return None
