"""The kinds of moments, and what may come next of each.

A kind is kept as a sample: a pair (moment, left) of the moment that has this
kind with the least number last, and the pages that are left then, MANY
standing for all numbers from there on. What comes next of a kind hangs on the
kind alone, so a step of the sample tells that of all its moments.
"""

from pagesonce.promises import SLACK, breaks_at_once
from pagesonce.steps import CUT_LYING, FIRST_MOMENT, LIE, after, is_sheet

MOST_SMALL = 8
MANY = 5


def first_samples():
    """The samples of the first moments of all jobs."""
    return [(FIRST_MOMENT, left) for left in range(MANY + 1)]


def rises(moment, choice):
    """Whether last becomes greater by a choice."""
    return choice in (LIE, CUT_LYING) and moment[4] > moment[5]


def next_samples(house, promise, sample, choice):
    """The samples that may come next; none exactly if the promise is broken at once."""
    moment, left = sample
    pages = moment[5] + left
    ahead = after(house, pages, moment, choice)
    if breaks_at_once(house, promise, pages, moment, choice, ahead):
        return []
    if not rises(moment, choice):
        return [(ahead, left)]
    settled = _settled(ahead)
    if left < MANY:
        return [(settled, left - 1)]
    return [(settled, MANY), (settled, MANY - 1)]


def _settled(moment):
    """The moment of the same kind whose number last is at most MOST_SMALL.

    No sheet is on its way: last has just risen by the one that was.
    """
    line, at, ok, note, way, last, lying = moment
    extra = last - MOST_SMALL
    if extra <= 0:
        return moment
    at = _lowered(at, extra)
    note = _lowered(note, extra)
    return (line, at, ok, note, way, MOST_SMALL, _lowered(lying, extra))


def _lowered(number, extra):
    # Above MOST_SMALL a number up to SLACK is never near last, all others are.
    return number if number <= SLACK else number - extra


def kind_of(sample):
    """The kind for which a sample stands."""
    (line, at, ok, note, way, last, lying), left = sample
    if is_sheet(way):
        way = _pair(way, last)
    return (line, _pair(at, last), ok, _pair(note, last), way, _pair(lying, last), last, left)


def _pair(number, last):
    distance = number - last
    if -SLACK <= distance <= SLACK:
        return (0, distance)
    return (1, number)


def kind_rank(kind):
    """A key by which kinds stand in their order: None first, numbers ahead of "told"."""
    line, at, ok, note, way, lying, small, left = kind
    place = -1 if line is None else line
    return (place, at, ok, note, _way_rank(way), lying, small, left)


def _way_rank(way):
    if way is None:
        return (0, 0, 0)
    if way[0] == "told":
        return (2, 0, way[1])
    return (1, way[0], way[1])
