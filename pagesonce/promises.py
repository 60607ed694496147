"""What a promise is, and by which steps it is broken at once."""

from pagesonce.errors import BadValue
from pagesonce.steps import CUT_LYING, LIE, after, is_sheet, puts

ONCE = "once"
LEAST = "least"
# Numbers up to this one may stay as they are, and numbers may be so far from last.
SLACK = 3


def is_promise(value):
    """Whether a value is a promise."""
    return value in (ONCE, LEAST)


def check_promise(promise, place):
    """Raise BadValue with its place unless this is a promise."""
    if not is_promise(promise):
        raise BadValue(place)


def unbroken_after(house, promise, pages, moment, choice):
    """The moment behind a choice, or None if the promise is broken at once by it."""
    ahead = after(house, pages, moment, choice)
    if _breaks_at_once(house, promise, pages, moment, choice, ahead):
        return None
    return ahead


def _breaks_at_once(house, promise, pages, moment, choice, ahead):
    if choice in (LIE, CUT_LYING) and _lies_wrong(house, promise, pages, moment):
        return True
    return _ends_wrong(pages, moment, ahead) or _is_lost(ahead)


def _lies_wrong(house, promise, pages, moment):
    """Whether the sheet on its way is put into the tray against the promise."""
    sheet = moment[4]
    last = moment[5]
    if not puts(house, sheet, last):
        return False
    if sheet < 1 or sheet > pages:
        return True
    if promise == ONCE:
        return sheet != last + 1
    return sheet > last + 1


def _ends_wrong(pages, moment, ahead):
    """Whether the house ends with a sheet on its way or pages lacking."""
    if moment[0] is None or ahead[0] is not None:
        return False
    return is_sheet(ahead[4]) or ahead[5] != pages


def _is_lost(moment):
    """Whether one of the numbers of a moment is too far away from last."""
    _, at, _, note, way, last, lying = moment
    numbers = [at, note, lying]
    if is_sheet(way):
        numbers.append(way)
    return any([number > SLACK and abs(number - last) > SLACK for number in numbers])
