"""What a promise is, and by which steps it is broken at once."""

from pagesonce.errors import BadValue
from pagesonce.steps import CUT_LYING, LIE, is_sheet, puts

ONCE = "once"
LEAST = "least"
# Numbers up to this one may stay as they are, and numbers may be so far from last.
SLACK = 3


def check_promise(promise, place):
    """Raise BadValue with its place unless this is a promise."""
    if promise not in (ONCE, LEAST):
        raise BadValue(place)


def breaks_at_once(house, promise, pages, moment, choice, ahead):
    """Whether the promise is broken at once by a choice that leads from moment to ahead."""
    if choice in (LIE, CUT_LYING) and _lies_wrong(house, promise, pages, moment):
        return True
    return _ends_wrong(pages, moment, ahead) or _is_lost(ahead)


def _lies_wrong(house, promise, pages, moment):
    """Whether the sheet on its way is put into the tray against the promise."""
    sheet = moment[4]
    last = moment[5]
    if not puts(house, sheet, last):
        return False
    if sheet < 1 or sheet > pages:
        return True
    if promise == ONCE:
        return sheet != last + 1
    return sheet > last + 1


def _ends_wrong(pages, moment, ahead):
    """Whether the house ends with a sheet on its way or pages lacking."""
    if moment[0] is None or ahead[0] is not None:
        return False
    return is_sheet(ahead[4]) or ahead[5] != pages


def _is_lost(moment):
    """Whether one of the numbers of a moment is too far away from last."""
    _, at, _, note, way, last, lying = moment
    numbers = [at, note, lying]
    if is_sheet(way):
        numbers.append(way)
    return any([number > SLACK and abs(number - last) > SLACK for number in numbers])
