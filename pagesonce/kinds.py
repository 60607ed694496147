"""The kinds of moments, and what may come next of each.

A kind is kept as a sample: a pair (moment, left) of the moment that has this
kind with the least number last, and the pages that are left then, MANY
standing for all numbers from there on. What comes next of a kind hangs on the
kind alone, so a step of the sample tells that of all its moments.
"""

from pagesonce.promises import SLACK, unbroken_after
from pagesonce.steps import FIRST_MOMENT, is_sheet, rises
from pagesonce.values import is_flag, is_integer, is_number, is_sequence, is_told

MOST_SMALL = 8
MANY = 5


def first_samples():
    """The samples of the first moments of all jobs."""
    return [(FIRST_MOMENT, left) for left in range(MANY + 1)]


def next_samples(house, promise, sample, choice):
    """The samples that may come next; none exactly if the promise is broken at once."""
    moment, left = sample
    ahead = unbroken_after(house, promise, moment[5] + left, moment, choice)
    if ahead is None:
        return []
    if not rises(moment, choice):
        return [(ahead, left)]
    settled = _settled(ahead)
    if left < MANY:
        return [(settled, left - 1)]
    return [(settled, MANY), (settled, MANY - 1)]


def _settled(moment):
    """The moment of the same kind whose number last is at most MOST_SMALL.

    No sheet is on its way: last has just risen by the one that was.
    """
    line, at, ok, note, way, last, lying = moment
    extra = last - MOST_SMALL
    if extra <= 0:
        return moment
    at = _lowered(at, extra)
    note = _lowered(note, extra)
    return (line, at, ok, note, way, MOST_SMALL, _lowered(lying, extra))


def _lowered(number, extra):
    # Above MOST_SMALL a number up to SLACK is never near last, all others are.
    return number if number <= SLACK else number - extra


def kind_of(sample):
    """The kind for which a sample stands."""
    (line, at, ok, note, way, last, lying), left = sample
    if is_sheet(way):
        way = _pair(way, last)
    return (line, _pair(at, last), ok, _pair(note, last), way, _pair(lying, last), last, left)


def _pair(number, last):
    distance = number - last
    if -SLACK <= distance <= SLACK:
        return (0, distance)
    return (1, number)


def sample_of(house, value):
    """The sample that stands for a kind, or None of a value that no moment has as its kind."""
    if not is_sequence(value) or len(value) != 8:
        return None
    line, at, ok, note, way, lying, small, left = value
    if not is_number(small, 0, MOST_SMALL) or not is_number(left, 0, MANY) or not is_flag(ok):
        return None
    if line is not None and not is_number(line, 0, len(house.rows) - 1):
        return None
    at, note, lying = [_number(pair, small) for pair in (at, note, lying)]
    if at is None or note is None or lying is None or not _is_way(way, small):
        return None
    way = _way(way, small)
    if line is None and (left != 0 or is_sheet(way)):
        return None
    if lying != 0 and not house.piling:
        return None
    return ((line, at, ok, note, way, small, lying), left)


def _number(value, small):
    """The number for which a pair stands, or None of a value that is no pair."""
    if not is_sequence(value) or len(value) != 2 or not is_number(value[0], 0, 1):
        return None
    far, number = value
    if not is_integer(number):
        return None
    if far == 0:
        near = -SLACK <= number <= SLACK and small + number >= 0
        return small + number if near else None
    # A number above SLACK that is not near last has lost its way.
    return number if 0 <= number <= SLACK and number < small - SLACK else None


def _is_way(value, small):
    """Whether a value may stand in a kind for what is on its way or to be told."""
    return value is None or is_told(value) or _number(value, small) is not None


def _way(value, small):
    if value is None:
        return None
    return ("told", value[1]) if is_told(value) else _number(value, small)


def kind_rank(kind):
    """A key by which kinds stand in their order: None first, numbers ahead of "told"."""
    line, at, ok, note, way, lying, small, left = kind
    place = -1 if line is None else line
    return (place, at, ok, note, _way_rank(way), lying, small, left)


def _way_rank(way):
    if way is None:
        return (0, 0, 0)
    if way[0] == "told":
        return (2, 0, way[1])
    return (1, way[0], way[1])
