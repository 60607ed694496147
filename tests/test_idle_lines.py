"""Points 7 and 35: the lines that are never come to."""

import unittest

from helpers import Case
from pagesonce.deciding import idle_lines
from pagesonce.plans import Plan, Printer
from reference import Job
from samples import COUNT_LINES, IDLE_LINES, KEPT, PRINTERS, SIXTEEN_LINES, random_cases

COUNTER = Printer(True, False, True)
REMEMBERING = Printer(False, True, True)


class Idle(Case):
    def idle(self, lines, printer=COUNTER, promise="once"):
        return idle_lines(printer, Plan(lines), promise)

    def test_no_idle_lines(self):
        self.assertSame(self.idle(COUNT_LINES), ())
        self.assertSame(self.idle((("end",),)), ())
        self.assertSame(self.idle((("go", 0),)), ())

    def test_lines_that_nothing_leads_to(self):
        self.assertSame(self.idle(IDLE_LINES), (6, 7))
        self.assertSame(self.idle((("end",), ("end",))), (1,))
        self.assertSame(self.idle((("go", 2), ("wait",), ("end",), ("go", 1))), (1, 3))
        self.assertSame(self.idle([("go", 15)] * 16), tuple(range(1, 15)))
        self.assertSame(self.idle(SIXTEEN_LINES, REMEMBERING), (13, 14))

    def test_idle_count(self):
        lines = (("end",), ("count",), ("end",))
        self.assertSame(self.idle(lines), (1, 2))

    def test_lines_only_some_printers_come_to(self):
        # Line 6 is for a jam that is told.
        lines = (("count",), ("if", "done", 7), ("add",), ("send",), ("wait",), ("if", "ok", 0), ("go", 0),
                 ("end",))
        for printer in PRINTERS:
            if printer.counts:
                wanted = () if printer.tells else (6,)
                self.assertSame(idle_lines(printer, Plan(lines), "once"), wanted)

    def test_lines_behind_a_break(self):
        # The sheet that lies is no page, or is not the next one; a jam leads on.
        lines = (("send",), ("wait",), ("if", "ok", 4), ("go", 3), ("end",))
        self.assertSame(self.idle(lines, Printer(False, False, True)), (4,))
        self.assertSame(self.idle(lines, Printer(False, False, False)), (3,))
        self.assertSame(self.idle(lines, Printer(False, True, True)), ())

    def test_the_promise_matters(self):
        # Page 1 is sent twice; ok behind the second one means that it lies twice.
        lines = (("add",), ("send",), ("wait",), ("if", "ok", 5), ("go", 4), ("send",), ("wait",),
                 ("if", "ok", 9), ("go", 8), ("end",))
        printer = Printer(False, False, True)
        self.assertSame(idle_lines(printer, Plan(lines), "once"), (9,))
        self.assertSame(idle_lines(printer, Plan(lines), "least"), ())

    def test_a_break_ends_its_course_alone(self):
        # at becomes 4 if the house goes on and on; a cut does not help.
        lines = (("add",), ("if", "ok", 3), ("go", 0), ("end",))
        self.assertSame(self.idle(lines), (3,))
        self.assertSame(self.idle([("add",)] * 6 + [("end",)]), (4, 5, 6))

    def test_an_end_that_breaks_is_come_to(self):
        self.assertSame(self.idle((("wait",), ("end",))), ())

    def test_lines_for_many_pages_only(self):
        # Line 6 is come to with two pages or more, when the second one lies.
        lines = (("count",), ("if", "done", 7), ("add",), ("send",), ("wait",), ("if", "done", 0), ("go", 0),
                 ("end",))
        self.assertSame(self.idle(lines), ())

    def test_never_fulfilled_is_no_end_of_a_course(self):
        # A cut leads out of the waiting for ever, and page 1 lies then.
        lines = (("count",), ("if", "done", 6), ("add",), ("send",), ("go", 4), ("add",), ("end",))
        self.assertSame(self.idle(lines), (5,))

    def test_kept_plans(self):
        for printer, lines, promise in KEPT:
            self.check(printer, Plan(lines), promise, 6)

    def test_plans_by_chance(self):
        some = 0
        for printer, plan, promise in random_cases(41, 250):
            some += len(self.check(printer, plan, promise, 6)) > 0
        self.assertGreater(some, 30)

    def check(self, printer, plan, promise, most_pages):
        """Compares the idle lines with those that jobs of few pages never come to."""
        found = idle_lines(printer, plan, promise)
        come = set()
        for pages in range(most_pages + 1):
            if len(come - {None}) + len(found) < len(plan):
                come.update(now.line for now in Job(printer, plan, promise, pages).moments())
        wanted = tuple(line for line in range(len(plan)) if line not in come)
        self.assertSame(found, wanted)
        return found


if __name__ == "__main__":
    unittest.main()
