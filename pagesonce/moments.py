"""The choices at a moment, and the moment to which a course leads."""

from pagesonce.errors import BadValue
from pagesonce.plans import check_fit
from pagesonce.steps import FIRST_MOMENT, House, after, is_choice, open_choices
from pagesonce.values import is_flag, is_number, is_sequence, is_told

MOST_NUMBER = 10 ** 9


def choices(printer, plan, pages, moment):
    """The ascending tuple of the choices at a moment of a job."""
    check_fit(printer, plan)
    _check_pages(pages)
    house = House(printer, plan)
    if not _is_moment(house, moment):
        raise BadValue(4)
    return open_choices(house, moment)


def moment(printer, plan, pages, course):
    """The moment to which a course of a job leads."""
    check_fit(printer, plan)
    _check_pages(pages)
    if not is_sequence(course):
        raise BadValue(4)
    house = House(printer, plan)
    now = FIRST_MOMENT
    for choice in course:
        if not is_choice(house, now, choice):
            raise BadValue(4)
        now = after(house, pages, now, choice)
    return now


def _check_pages(pages):
    if not is_number(pages, 0, MOST_NUMBER):
        raise BadValue(3)


def _is_moment(house, value):
    """Whether a value has the form of a moment of the house."""
    if not is_sequence(value) or len(value) != 7:
        return False
    line, at, ok, note, way, last, lying = value
    if line is not None and not is_number(line, 0, len(house.rows) - 1):
        return False
    if not _are_numbers([at, note, last, lying]):
        return False
    if lying != 0 and not house.piling:
        return False
    return is_flag(ok) and _is_way(way)


def _are_numbers(values):
    return all([is_number(value, -MOST_NUMBER, MOST_NUMBER) for value in values])


def _is_way(value):
    return value is None or is_told(value) or is_number(value, -MOST_NUMBER, MOST_NUMBER)
