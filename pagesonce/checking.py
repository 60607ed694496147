"""Checks of courses and of books, without a search."""

from pagesonce.kinds import first_samples, kind_of, kind_rank, next_samples, sample_of
from pagesonce.plans import check_fit
from pagesonce.promises import check_promise, unbroken_after
from pagesonce.runs import ENDLESS, run_from, stretch
from pagesonce.steps import FIRST_MOMENT, House, is_choice, open_choices
from pagesonce.values import is_number, is_sequence

MOST_PAGES = 20000


def breaks(printer, plan, promise, value):
    """Whether a value is a pair (pages, course) of a course that breaks the promise."""
    check_fit(printer, plan)
    check_promise(promise, 3)
    if not is_sequence(value) or len(value) != 2:
        return False
    pages, course = value
    if not is_number(pages, 0, MOST_PAGES) or not is_sequence(course):
        return False
    return _breaks_at_its_end(House(printer, plan), promise, pages, course)


def _breaks_at_its_end(house, promise, pages, course):
    moment = FIRST_MOMENT
    for place, choice in enumerate(course):
        if not is_choice(house, moment, choice):
            return False
        moment = unbroken_after(house, promise, pages, moment, choice)
        if moment is None:
            return place == len(course) - 1
    outcome, _ = run_from(house, promise, pages, moment)
    return outcome == ENDLESS


def book_holds(printer, plan, promise, book):
    """Whether a value is a book that holds for the promise."""
    check_fit(printer, plan)
    check_promise(promise, 3)
    house = House(printer, plan)
    samples = _samples_of(house, book)
    if samples is None or not _are_ascending(samples):
        return False
    known = {sample: True for sample in samples}
    if not _are_known(first_samples(), known) or not _is_closed(house, promise, known):
        return False
    return not _has_round(house, promise, samples)


def _samples_of(house, book):
    """The samples of the kinds in a sequence, or None of a value that is no sequence of kinds."""
    if not is_sequence(book):
        return None
    samples = [sample_of(house, value) for value in book]
    return None if None in samples else samples


def _are_ascending(samples):
    ranks = [kind_rank(kind_of(sample)) for sample in samples]
    return all([one < other for one, other in zip(ranks, ranks[1:])])


def _are_known(samples, known):
    return all([sample in known for sample in samples])


def _is_closed(house, promise, known):
    """Whether no choice at these samples breaks the promise at once or leads out of them."""
    for sample in known:
        for choice in open_choices(house, sample[0]):
            nexts = next_samples(house, promise, sample, choice)
            if not nexts or not _are_known(nexts, known):
                return False
    return True


def _has_round(house, promise, samples):
    """Whether a run from one of these samples comes round and last never rises in it."""
    ending = {}
    for sample in samples:
        passed, nexts = stretch(house, promise, sample, ending)
        if nexts is None:
            return True
        for one in passed:
            ending[one] = True
    return False
