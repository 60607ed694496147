"""Points 8 and 36 to 38: courses that look alike to the house."""

import itertools
import unittest

from helpers import Case
from pagesonce.checking import breaks
from pagesonce.deciding import decide
from pagesonce.moments import choices, moment
from pagesonce.plans import Plan, Printer
from pagesonce.running import twins
from reference import Job
from samples import (COUNT_LINES, NOTE_BLINDLY_LINES, NOTE_LINES, PRINTERS, RESEND_LINES, SIXTEEN_LINES,
                     random_cases)

BLIND = Printer(False, False, True)
SILENT = Printer(False, False, False)
FREE = (BLIND, SILENT)
ABLE = [printer for printer in PRINTERS if printer.counts or printer.remembers]
NO_PAGES = (0, -1, 301, 10 ** 30, True, False, None, "1", "", (), (1,), [1])


def pair(many):
    return (0,) * many + (3,), (0,) * many + (4,)


class Arguments(Case):
    def test_wrong_printers(self):
        for wrong in [None, True, 0, "printer", (), [False, False, True], Plan(NOTE_LINES)] + ABLE:
            self.assertBadValue(1, twins, wrong, Plan(NOTE_LINES), 1)
            self.assertBadValue(1, twins, wrong, Plan(COUNT_LINES), 1)
            self.assertBadValue(1, twins, wrong, None, None)

    def test_wrong_plans(self):
        for printer in FREE:
            for wrong in (None, True, 0, "plan", NOTE_LINES, (), printer, Plan(COUNT_LINES),
                          Plan((("end",), ("count",), ("end",)))):
                self.assertBadValue(2, twins, printer, wrong, 1)
                self.assertBadValue(2, twins, printer, wrong, None)

    def test_wrong_pages(self):
        for wrong in NO_PAGES:
            self.assertBadValue(3, twins, BLIND, Plan(NOTE_LINES), wrong)
            self.assertBadValue(3, twins, BLIND, Plan((("end",),)), wrong)

    def test_names_of_arguments(self):
        self.assertSame(twins(pages=1, plan=Plan(NOTE_LINES), printer=BLIND), pair(4))


class Twins(Case):
    def check(self, lines, wanted, some_pages=(1, 2, 300)):
        for printer in FREE:
            for pages in some_pages:
                self.assertSame(twins(printer, Plan(lines), pages), wanted)

    def test_plans_that_note(self):
        self.check(NOTE_LINES, pair(4))
        self.check(NOTE_BLINDLY_LINES, pair(4))
        self.check(RESEND_LINES, pair(4))
        self.check(SIXTEEN_LINES, pair(6))

    def test_first_line(self):
        self.check((("send",), ("end",)), pair(1))
        self.check((("send",), ("wait",), ("go", 0)), pair(1))

    def test_house_that_ends_ahead(self):
        self.check((("end",),), None)
        self.check((("if", "ok", 0), ("end",), ("send",), ("end",)), None)

    def test_house_that_never_ends(self):
        self.check((("go", 0),), None)
        self.check((("wait",), ("go", 0)), None)
        self.check((("add",), ("note",), ("go", 2), ("send",), ("end",)), None)
        # The same line with another at is another moment.
        self.check((("if", "done", 3), ("add",), ("go", 0), ("send",), ("end",)), pair(3 + 1 + 1), (1,))

    def test_numbers_above_three(self):
        for many in range(4):
            self.check((("add",),) * many + (("send",), ("end",)), pair(many + 1))
            self.check((("add",),) * many + (("note",), ("send",), ("end",)), pair(many + 2))
        for many in (4, 5, 9):
            self.check((("add",),) * many + (("send",), ("end",)), None)
            self.check((("add",),) * many + (("note",), ("recall",), ("send",), ("end",)), None)
        # It loses its way even if at becomes less again ahead of the sheet.
        self.check((("add",),) * 4 + (("recall",), ("send",), ("end",)), None)
        self.check((("add",),) * 3 + (("recall",), ("send",), ("end",)), pair(5))
        self.check((("add",), ("go", 0)), None)

    def test_pages_matter(self):
        lines = (("if", "done", 3), ("add",), ("go", 0), ("send",), ("wait",), ("end",))
        for pages, many in ((1, 5), (2, 8), (3, 11)):
            self.check(lines, pair(many), (pages,))
        self.check(lines, None, (4, 5, 300))

    def test_no_cuts_and_no_jams(self):
        # ok stays False until a sheet has come to lie.
        self.check((("if", "ok", 3), ("wait",), ("end",), ("send",), ("end",)), None)

    def test_as_the_words_say(self):
        some = {True: 0, False: 0}
        for _, plan, promise in random_cases(81, 900):
            if ("count",) not in plan.lines:
                for printer, pages in itertools.product(FREE, (1, 2, 3, 4, 300)):
                    found = twins(printer, plan, pages)
                    self.assertSame(found, Job(printer, plan, promise, pages).twins())
                    some[found is None] += 1
        self.assertGreater(some[True], 200)
        self.assertGreater(some[False], 200)


class WhatTwinsProve(Case):
    """Points 8, 37 and 38."""

    def cases(self):
        known = [(printer, Plan(lines)) for printer in FREE
                 for lines in (NOTE_LINES, NOTE_BLINDLY_LINES, RESEND_LINES, SIXTEEN_LINES)]
        zero = [(BLIND, Plan((("send",), ("wait",), ("end",)))),
                (BLIND, Plan((("add",), ("add",), ("send",), ("wait",), ("end",))))]
        chance = [(printer, plan) for printer, plan, _ in random_cases(82, 900) if printer in FREE]
        return known + zero + chance

    def test_one_of_two_breaks(self):
        sheets = {}
        for printer, plan in self.cases():
            for pages in (1, 2, 5):
                found = twins(printer, plan, pages)
                if found is None:
                    continue
                first, second = found
                self.assertEqual((first[:-1], first[-1], second[-1]), (second[:-1], 3, 4))
                one, other = (moment(printer, plan, pages, course) for course in found)
                # The house and its note are the same behind both.
                self.assertSame(one[:5], other[:5])
                sheet = moment(printer, plan, pages, first[:-1])[4]
                sheets[sheet] = sheets.get(sheet, 0) + 1
                if sheet != 1:
                    self.assertIs(breaks(printer, plan, "once", (pages, first)), True)
                else:
                    self.assertEqual((one[5], other[5]), (1, 0))
                    self.one_breaks(printer, plan, pages, first, second)
        self.assertGreater(sheets[1], 50)
        self.assertTrue({0, 1, 2}.issubset(sheets))

    def one_breaks(self, printer, plan, pages, first, second):
        """Goes on with both alike until one of them breaks; fails if that never comes."""
        for _ in range(1000):
            if any(breaks(printer, plan, "once", (pages, course)) for course in (first, second)):
                return
            one, other = (choices(printer, plan, pages, moment(printer, plan, pages, course))
                          for course in (first, second))
            self.assertEqual(one, other)
            self.assertIn(one[0], (0, 1))
            first, second = first + one[:1], second + one[:1]
        self.fail((plan.lines, pages))

    def test_no_plan_keeps_once(self):
        for printer, plan in self.cases():
            word, found = decide(printer, plan, "once")
            self.assertEqual(word, "course")
            self.assertIs(breaks(printer, plan, "once", found), True)

    def test_without_a_sheet_the_promise_is_broken(self):
        some = 0
        for printer, plan in self.cases():
            if twins(printer, plan, 1) is None:
                some += 1
                self.assertEqual(Job(printer, plan, "once", 1).costs(), None)
        self.assertGreater(some, 20)


if __name__ == "__main__":
    unittest.main()
