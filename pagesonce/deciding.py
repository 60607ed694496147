"""Whether a plan keeps a promise, and the lines that are never come to."""

from pagesonce.kinds import kind_of, kind_rank
from pagesonce.plans import check_fit
from pagesonce.promises import check_promise
from pagesonce.search import Search
from pagesonce.steps import House


def decide(printer, plan, promise):
    """("book", the least book), or ("course", (pages, a shortest breaking course))."""
    check_fit(printer, plan)
    check_promise(promise, 3)
    search = Search(House(printer, plan), promise)
    found = _shortest_break(search)
    if found is None:
        return ("book", _book(search))
    return ("course", found)


def _shortest_break(search):
    """The pair (pages, course) of a shortest course that breaks the promise, or None."""
    layer = search.first_layer()
    while layer:
        # A layer's moments are as many choices away as the layer's number. A
        # moment at which the promise is never fulfilled needs none more, so all
        # of them are asked ahead of the choices that break the promise at once.
        for sample in layer:
            pages = search.endless_pages(sample)
            if pages is not None:
                return (pages, search.course_to(sample))
        layer = search.next_layer(layer)
        if search.fault is not None:
            sample, choice = search.fault
            return (search.pages_at(sample), search.course_to(sample) + (choice,))
    return None


def _book(search):
    kinds = [kind_of(sample) for sample in search.origins]
    return tuple(sorted(kinds, key=kind_rank))


def idle_lines(printer, plan, promise):
    """The ascending tuple of the lines that are next at no moment ahead of a break."""
    check_fit(printer, plan)
    check_promise(promise, 3)
    search = Search(House(printer, plan), promise)
    come = {}
    layer = search.first_layer()
    while layer and not _all_come(come, plan):
        for moment, _ in layer:
            come[moment[0]] = True
        layer = search.next_layer(layer)
    return tuple([line for line in range(len(plan)) if line not in come])


def _all_come(come, plan):
    return all([line in come for line in range(len(plan))])
