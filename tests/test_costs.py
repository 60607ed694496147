"""Points 6 and 34: what jobs cost when nothing comes between."""

import unittest

from helpers import ODD_VALUES, Case
from pagesonce.deciding import decide
from pagesonce.moments import moment
from pagesonce.plans import Plan, Printer
from pagesonce.running import costs
from reference import Job
from samples import (COUNT_LINES, COUNT_ONCE_LINES, KEPT, NOTE_LINES, PRINTERS, RESEND_LINES, STAY_LINES, ZERO_LINES,
                     random_cases)

COUNTER = Printer(True, False, True)
TAKER = Printer(True, True, True)
BLIND = Printer(False, False, True)
PROMISES = ("once", "least")
NO_PAGES = (-1, 301, 10 ** 30, True, False, None, "1", "", (), (1,), [1])


class Arguments(Case):
    def test_wrong_promises(self):
        for wrong in ODD_VALUES:
            self.assertBadValue(3, costs, COUNTER, Plan(COUNT_LINES), wrong, 1)

    def test_wrong_pages(self):
        for wrong in NO_PAGES:
            self.assertBadValue(4, costs, COUNTER, Plan(COUNT_LINES), "once", wrong)
            self.assertBadValue(4, costs, COUNTER, Plan((("end",),)), "least", wrong)

    def test_first_wrong_argument_is_told(self):
        self.assertBadValue(1, costs, None, None, None, None)
        self.assertBadValue(2, costs, COUNTER, None, None, None)
        self.assertBadValue(2, costs, BLIND, Plan(COUNT_LINES), None, None)
        self.assertBadValue(3, costs, COUNTER, Plan(COUNT_LINES), None, None)
        self.assertBadValue(3, costs, COUNTER, Plan(COUNT_LINES), "Once", 301)
        self.assertBadValue(4, costs, COUNTER, Plan(COUNT_LINES), "once", None)

    def test_names_of_arguments(self):
        found = costs(pages=1, promise="once", plan=Plan(COUNT_LINES), printer=COUNTER)
        self.assertSame(found, (0, 1, 10))


class Costs(Case):
    def costs(self, lines, pages, printer=COUNTER, promise="once"):
        return costs(printer, Plan(lines), promise, pages)

    def test_counting_plan(self):
        for promise in PROMISES:
            self.assertSame(self.costs(COUNT_LINES, 0, promise=promise), (0, 0, 3))
            self.assertSame(self.costs(COUNT_LINES, 1, promise=promise), (0, 1, 10))
            self.assertSame(self.costs(COUNT_LINES, 2, promise=promise), (0, 2, 17))
            self.assertSame(self.costs(COUNT_LINES, 300, promise=promise), (0, 300, 2103))
            # The count is asked once alone, and ahead of the first page.
            self.assertSame(self.costs(COUNT_ONCE_LINES, 300, promise=promise), (0, 300, 1803))

    def test_noting_plan(self):
        for printer in PRINTERS:
            for promise in PROMISES:
                self.assertSame(self.costs(NOTE_LINES, 0, printer, promise), (0, 0, 3))
                self.assertSame(self.costs(NOTE_LINES, 1, printer, promise), (1, 1, 12))
                self.assertSame(self.costs(NOTE_LINES, 300, printer, promise), (300, 300, 2703))

    def test_notes_alone(self):
        self.assertSame(self.costs((("note",), ("note",), ("end",)), 0), (2, 0, 3))
        self.assertSame(self.costs(STAY_LINES, 0), (1, 0, 8))
        self.assertSame(self.costs(STAY_LINES, 300), (1, 300, 2108))
        self.assertSame(self.costs((("end",),), 0), (0, 0, 1))

    def test_sheets_that_are_not_taken(self):
        self.assertSame(self.costs(ZERO_LINES, 0, TAKER), (0, 1, 6))
        # The count is asked ahead of the sheet's coming to lie: each page is sent twice.
        self.assertSame(self.costs(ZERO_LINES, 300, TAKER), (0, 601, 4206))
        self.assertSame(self.costs(RESEND_LINES, 2, TAKER), (2, 4, 25))

    def test_the_promise_matters(self):
        for printer in PRINTERS:
            once = self.costs(RESEND_LINES, 2, printer, "once")
            self.assertSame(once, (2, 4, 25) if printer.remembers else None)
            self.assertSame(self.costs(RESEND_LINES, 2, printer, "least"), (2, 4, 25))
            self.assertSame(self.costs(RESEND_LINES, 0, printer, "once"), (0, 0, 3))

    def test_broken_at_once(self):
        for lines, pages in (
            ((("end",),), 1), ((("end",),), 300),
            # With a sheet on its way.
            (COUNT_LINES[:6] + (("send",), ("end",)), 0), (COUNT_LINES[:6] + (("send",), ("end",)), 300),
            # A sheet that is no page, one skipped, one above the pages.
            ((("send",), ("wait",), ("end",)), 0), ((("add",), ("add",), ("send",), ("wait",), ("end",)), 2),
            ((("add",), ("send",), ("wait",), ("end",)), 0),
            # at and note too far away.
            ([("add",)] * 4 + [("end",)], 0), ((("add",), ("go", 0)), 300),
        ):
            for promise in PROMISES:
                self.assertIsNone(self.costs(lines, pages, promise=promise))

    def test_broken_behind_many_pages(self):
        # The last page but one is the last that is put.
        lines = (("count",), ("add",), ("if", "done", 6), ("send",), ("wait",), ("go", 0), ("end",))
        for pages in (1, 2, 300):
            self.assertIsNone(self.costs(lines, pages))

    def test_never_fulfilled(self):
        for lines in ((("go", 0),), (("wait",), ("go", 0)), COUNT_LINES[:6] + (("go", 6),),
                      COUNT_LINES[:6] + (("note",), ("go", 6))):
            for pages in (0, 1, 300):
                self.assertIsNone(self.costs(lines, pages))
        # Busy for ever while a sheet is on its way, if there is a page.
        lines = (("if", "done", 5), ("add",), ("send",), ("if", "ok", 0), ("go", 3), ("end",))
        self.assertIsNone(self.costs(lines, 1))
        self.assertSame(self.costs(lines, 0), (0, 0, 2))

    def test_twice_at_a_line_is_no_round(self):
        # ok is True behind the first page: the same lines are gone through again.
        lines = (("count",), ("if", "done", 8), ("if", "ok", 4), ("wait",), ("add",), ("send",), ("wait",),
                 ("go", 0), ("end",))
        self.assertSame(self.costs(lines, 2), (0, 2, 20))

    def test_steps_are_the_choices_of_the_run(self):
        course = (0, 0, 0, 0, 1, 0, 0) * 3 + (0, 0, 0)
        self.assertEqual(moment(COUNTER, Plan(COUNT_LINES), 3, course)[0], None)
        self.assertSame(self.costs(COUNT_LINES, 3), (0, 3, len(course)))


class ManyPlans(Case):
    def test_never_none_for_kept_promises(self):
        for printer, lines, promise in KEPT:
            for pages in (0, 1, 2, 9, 300):
                found = costs(printer, Plan(lines), promise, pages)
                self.assertEqual([type(number) for number in found], [int] * 3)
                self.assertGreaterEqual(found[1], pages)

    def test_as_the_words_say(self):
        """None exactly if the run breaks the promise, as the reference tells."""
        some = {True: 0, False: 0}
        for printer, plan, promise in random_cases(71, 700):
            kept = decide(printer, plan, promise)[0] == "book"
            for pages in (0, 1, 2, 5, 13):
                found = costs(printer, plan, promise, pages)
                self.assertSame(found, Job(printer, plan, promise, pages).costs())
                some[found is None] += 1
                self.assertFalse(kept and found is None)
        self.assertGreater(some[True], 500)
        self.assertGreater(some[False], 500)


if __name__ == "__main__":
    unittest.main()
