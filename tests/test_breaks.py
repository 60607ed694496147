"""Points 1, 3 and 26 to 28: courses that break a promise."""

import random
import unittest

from helpers import ODD_VALUES, Case, as_lists
from pagesonce.checking import breaks
from pagesonce.deciding import decide
from pagesonce.moments import choices, moment
from pagesonce.plans import Plan, Printer
from reference import START, Job
from samples import (COUNT_LINES, FAR_LINES, KEPT, NOTE_BLINDLY_LINES, NOTE_LINES, PRINTERS,
                     RESEND_LINES, SIXTEEN_LINES, random_cases)

COUNTER = Printer(True, False, True)
BLIND = Printer(False, False, True)
PROMISES = ("once", "least")
# Waits for ever once it has put all pages down.
WAITING_LINES = COUNT_LINES[:6] + (("go", 6),)
# Ends with a sheet on its way once it has put all pages down.
HASTY_LINES = COUNT_LINES[:6] + (("send",), ("end",))
# What a page takes with COUNT_LINES and its like.
PAGE = (0, 0, 0, 0, 1, 0, 0)


class Arguments(Case):
    def test_wrong_promises(self):
        for wrong in ODD_VALUES:
            self.assertBadValue(3, breaks, COUNTER, Plan(COUNT_LINES), wrong, (0, ()))

    def test_first_wrong_argument_is_told(self):
        self.assertBadValue(1, breaks, None, None, None, None)
        self.assertBadValue(2, breaks, COUNTER, None, None, None)
        self.assertBadValue(2, breaks, BLIND, Plan(COUNT_LINES), None, None)
        self.assertBadValue(3, breaks, COUNTER, Plan(COUNT_LINES), None, None)

    def test_names_of_arguments(self):
        plan = Plan((("end",),))
        self.assertIs(breaks(value=(1, (0,)), promise="once", plan=plan, printer=COUNTER), True)

    def test_lists_at_every_level(self):
        plan = Plan((("end",),))
        for value in ((1, (0,)), [1, (0,)], (1, [0]), [1, [0]]):
            self.assertIs(breaks(COUNTER, plan, "once", value), True)
        for value in ((0, (0,)), [0, (0,)], (0, [0]), [0, [0]]):
            self.assertIs(breaks(COUNTER, plan, "once", value), False)

    def test_argument_is_not_changed(self):
        value = [1, [0]]
        breaks(COUNTER, Plan((("end",),)), "once", value)
        self.assertEqual(value, [1, [0]])


class NoPairs(Case):
    """Values for which the answer is False, not an error."""

    # With this plan the promise is never fulfilled; with that one it is broken by choice 0.
    endless = Plan((("go", 0),))
    early = Plan((("end",),))

    def no(self, value):
        for plan in (self.endless, self.early, Plan(COUNT_LINES)):
            for promise in PROMISES:
                self.assertIs(breaks(COUNTER, plan, promise, value), False, value)

    def test_odd_values(self):
        deep = 0
        for _ in range(39):
            deep = [deep]
        for value in ODD_VALUES + (0, 1, "ab", "(0, ())", (0,), (0, (), ()), ((), 0), ((0, ()),), (((),), 0),
                                   [None, None], (None, ()), ((), ()), deep, [0] * 20000,
                                   ["a" * 60000, "\n" * 60000], (0, ()) * 2):
            self.no(value)

    def test_pages(self):
        for pages in (-1, 20001, 10 ** 30, -10 ** 30, True, False, None, "1", "", (1,), [], (), "told"):
            self.no((pages, ()))
            self.no((pages, (0,)))
            self.no([pages, [0]])

    def test_pages_to_their_ends(self):
        for pages in (0, 1, 19999, 20000):
            self.assertIs(breaks(COUNTER, self.endless, "once", (pages, ())), True)
            self.assertIs(breaks(COUNTER, self.early, "once", (pages, (0,))), pages > 0)
        self.assertIs(breaks(COUNTER, self.endless, "once", (20001, ())), False)
        self.assertIs(breaks(COUNTER, self.early, "once", (20001, (0,))), False)

    def test_courses_of_no_form(self):
        for course in (None, True, False, 0, 1, "", "0", 10 ** 30):
            self.no((1, course))

    def test_choices_of_no_form(self):
        for wrong in (True, False, None, "0", "", (), [], (0,), [0], -1, 6, 10 ** 30, "told"):
            self.no((1, (wrong,)))
            self.no((1, [wrong]))
            self.no((0, (0, 0, 0, wrong)))
            self.no((1, (0, wrong)))

    def test_true_and_false_are_no_choices(self):
        lines = (("add",), ("add",), ("send",), ("wait",), ("end",))
        self.assertIs(breaks(COUNTER, Plan(lines), "once", (1, (0, 0, 0, 1))), True)
        self.assertIs(breaks(COUNTER, Plan(lines), "once", (1, (0, 0, 0, True))), False)
        self.assertIs(breaks(COUNTER, self.endless, "once", (1, (0, 0))), True)
        self.assertIs(breaks(COUNTER, self.endless, "once", (1, (0, False))), False)

    def test_what_the_package_returns(self):
        returned = [decide(COUNTER, Plan(COUNT_LINES), "once"), decide(COUNTER, self.early, "once"),
                    decide(COUNTER, Plan(COUNT_LINES), "once")[1], moment(COUNTER, self.early, 1, ()),
                    choices(COUNTER, self.early, 1, (0, 0, False, 0, None, 0, 0))]
        for value in returned:
            self.no(value)


class Courses(Case):
    """Points 27 and 28, one by one."""

    def broken(self, lines, pages, course, printers=PRINTERS, promises=PROMISES):
        return self.answer(True, lines, pages, course, printers, promises)

    def kept(self, lines, pages, course, printers=PRINTERS, promises=PROMISES):
        return self.answer(False, lines, pages, course, printers, promises)

    def answer(self, wanted, lines, pages, course, printers, promises):
        for printer in printers:
            for promise in promises:
                if ("count",) in lines and not printer.counts:
                    continue
                found = breaks(printer, Plan(lines), promise, (pages, course))
                self.assertIs(found, wanted, (lines, pages, course, promise))
                job = Job(printer, Plan(lines), promise, pages)
                self.assertIs(job.breaks(course), wanted)

    def test_ends_too_early(self):
        lines = (("wait",), ("end",))
        self.broken(lines, 1, (0, 0))
        self.broken(lines, 7, (0, 5, 0, 0))
        self.kept(lines, 0, (0, 0))
        # At these moments it is not broken yet, and the house would come to its end.
        self.kept(lines, 1, ())
        self.kept(lines, 1, (0,))
        self.kept(lines, 1, (0, 5))

    def test_nothing_comes_behind_the_end(self):
        for choice in range(6):
            self.kept((("end",),), 1, (0, choice))
            self.kept((("end",),), 0, (0, choice))

    def test_ends_with_a_sheet_on_its_way(self):
        lines = (("if", "done", 3), ("add",), ("send",), ("end",))
        self.broken(lines, 1, (0, 0, 0, 0))
        self.kept(lines, 1, (0, 0, 0, 1))
        self.kept(lines, 1, (0, 0, 0, 1, 0))
        self.broken(lines, 1, (0, 0, 0, 2, 0))
        # The course would go on, but the promise is broken ahead of its last choice.
        self.assertEqual(moment(BLIND, Plan(lines), 1, (0, 0, 0, 0, 1))[0], None)
        self.kept(lines, 1, (0, 0, 0, 0, 1))
        self.kept(lines, 1, (0, 0, 0, 0, 2))

    def test_broken_earlier(self):
        # Sheet 2 lies first; then sheet 2 lies once more, which breaks the promise again for "once".
        lines = (("add",), ("add",), ("send",), ("wait",), ("send",), ("wait",), ("go", 6))
        course = (0, 0, 0, 1)
        self.broken(lines, 2, course)
        for more in ((0,), (0, 0), (0, 0, 1), (0, 0, 1, 0), (0, 0, 1, 0, 0), (5,)):
            self.assertEqual(len(moment(BLIND, Plan(lines), 2, course + more)), 7)
            self.kept(lines, 2, course + more)

    def test_never_fulfilled(self):
        lines = (("add",), ("wait",), ("go", 1))
        for course in ((), (0,), (0, 0), (0, 0, 0), (0, 0, 0, 0, 5), (5,) * 30):
            self.broken(lines, 0, course)
            self.broken(lines, 5, course)

    def test_never_fulfilled_behind_a_jam_alone(self):
        lines = (("count",), ("if", "done", 7), ("add",), ("send",), ("wait",), ("if", "ok", 0), ("go", 6),
                 ("end",))
        telling = [printer for printer in PRINTERS if printer.tells]
        self.kept(lines, 1, ())
        self.kept(lines, 1, (0, 0, 0, 0))
        self.kept(lines, 1, (0, 0, 0, 0, 1))
        self.broken(lines, 1, (0, 0, 0, 0, 2), telling)
        self.broken(lines, 1, (0, 0, 0, 0, 2, 0), telling)
        self.kept(lines, 1, (0, 0, 0, 0, 2, 5), telling)
        silent = [printer for printer in PRINTERS if not printer.tells]
        self.kept(lines, 1, (0, 0, 0, 0, 2), silent)

    def test_busy_while_a_sheet_is_on_its_way(self):
        # With nothing between, the sheet stays on its way for ever.
        lines = (("if", "done", 5), ("add",), ("send",), ("if", "ok", 0), ("go", 3), ("end",))
        self.broken(lines, 1, ())
        self.broken(lines, 1, (0, 0, 0))
        self.broken(lines, 1, (0, 0, 0, 0, 0, 0))
        self.kept(lines, 0, ())

    def test_sheets_that_lie_in_a_run(self):
        # Where the house cannot go on, the sheet comes to lie, and is not the next one.
        lines = (("if", "done", 5), ("add",), ("add",), ("send",), ("wait",), ("go", 5))
        self.kept(lines, 2, ())
        self.broken(lines, 2, (0, 0, 0, 0, 1))
        self.broken(lines, 2, (0, 0, 0, 0, 3))
        self.broken(lines, 2, (0, 0, 0, 0, 2))
        self.kept(lines, 2, (0, 0, 0, 0, 4))

    def test_a_run_that_breaks_is_no_endless_one(self):
        # at becomes more and more; the promise is broken on the way.
        lines = (("add",), ("go", 0))
        self.kept(lines, 9, ())
        self.kept(lines, 9, (0,) * 6)
        self.broken(lines, 9, (0,) * 7)
        self.kept(lines, 9, (0,) * 8)

    def test_once_and_least(self):
        forgetting = [printer for printer in PRINTERS if not printer.remembers]
        twice = (0, 0, 0, 0, 1, 0, 1)
        self.broken(RESEND_LINES, 1, twice, forgetting, ("once",))
        self.kept(RESEND_LINES, 1, twice, forgetting, ("least",))
        remembering = [printer for printer in PRINTERS if printer.remembers]
        self.kept(RESEND_LINES, 1, twice, remembering)

    def test_sheets_that_are_no_page(self):
        lines = (("send",), ("wait",), ("add",), ("send",), ("wait",), ("add",), ("send",), ("wait",), ("end",))
        forgetting = [printer for printer in PRINTERS if not printer.remembers]
        remembering = [printer for printer in PRINTERS if printer.remembers]
        self.broken(lines, 1, (0, 1), forgetting)
        self.kept(lines, 1, (0, 1), remembering)
        above = (0, 2, 0, 0, 0, 1, 0, 0, 0)
        self.broken(lines, 1, above + (1,))
        self.broken(lines, 1, above + (3,))
        self.kept(lines, 2, above + (1,))

    def test_sheets_too_many(self):
        # Each round puts page 1 once more; only a plan that asks the count loses its way by it.
        lines = (("add",), ("send",), ("wait",), ("go", 1))
        course = (0,) + (0, 1, 0, 0) * 4 + (0, 1)
        self.broken(lines + (("count",), ("end",)), 1, course, [COUNTER], ("least",))
        self.kept(lines + (("count",), ("end",)), 1, course[:-5], [COUNTER], ("least",))
        # Without it the promise is never fulfilled, at any of these moments.
        self.broken(lines + (("wait",), ("end",)), 1, course, [COUNTER], ("least",))
        self.broken(lines + (("wait",), ("end",)), 1, course[:-5], [COUNTER], ("least",))

    def test_note_too_far(self):
        # note stays 4 from the first page on: page 8 leaves it behind.
        lines = (("count",), ("add",), ("add",), ("add",), ("note",), ("count",), ("if", "done", 11),
                 ("add",), ("send",), ("wait",), ("go", 5), ("end",))
        ahead = (0,) * 9 + (1, 5) + (0,) * 9
        next_page = (1, 0, 0, 0, 0, 0, 0)
        for pages in (8, 50):
            self.broken(lines, pages, ahead + next_page * 6 + (1,), [COUNTER])
            self.kept(lines, pages, ahead + next_page * 6, [COUNTER])
            self.kept(lines, pages, ahead + next_page * 5 + (1,), [COUNTER])


class LongCourses(Case):
    def test_many_choices(self):
        pages = 2856
        for lines, last in ((HASTY_LINES, (0, 0, 0, 0)), (COUNT_LINES, None), (WAITING_LINES, (0, 0, 0))):
            course = PAGE * pages + (last or (0, 0, 0))
            for promise in PROMISES:
                found = breaks(COUNTER, Plan(lines), promise, (pages, course))
                self.assertIs(found, last is not None)
        course = PAGE * pages + (0, 0, 0, 0)
        for wrong in ((pages, course[:-1]), (pages, course + (1,)), (pages, course + (0,)), (pages - 1, course),
                      (pages + 1, course), (pages, course[:-2] + (5,))):
            self.assertIs(breaks(COUNTER, Plan(HASTY_LINES), "once", wrong), False)

    def test_twenty_thousand_choices(self):
        self.assertIs(breaks(COUNTER, Plan(COUNT_LINES), "once", (20000, [5] * 20000)), False)
        self.assertIs(breaks(COUNTER, Plan((("go", 0),)), "once", (20000, [5, 0] * 10000)), True)

    def test_many_pages(self):
        """Never fulfilled, but only behind the last of the pages."""
        for pages in (300, 20000):
            self.assertIs(breaks(COUNTER, Plan(WAITING_LINES), "once", (pages, ())), True)
            self.assertIs(breaks(COUNTER, Plan(WAITING_LINES), "once", (pages, PAGE * 20)), True)
            self.assertIs(breaks(COUNTER, Plan(HASTY_LINES), "once", (pages, ())), False)
            self.assertIs(breaks(COUNTER, Plan(COUNT_LINES), "once", (pages, ())), False)
        self.assertIs(breaks(COUNTER, Plan(WAITING_LINES), "once", (20001, ())), False)


class DecidedCourses(Case):
    """Points 1 and 3, for what decide returns."""

    def cases(self):
        known = [(printer, Plan(lines), promise) for printer in PRINTERS for promise in PROMISES
                 for lines in (NOTE_LINES, NOTE_BLINDLY_LINES, SIXTEEN_LINES, RESEND_LINES, FAR_LINES)]
        return known + random_cases(51, 600)

    def test_they_break_and_others_do_not(self):
        endless = at_once = 0
        for printer, plan, promise in self.cases():
            word, found = decide(printer, plan, promise)
            if word == "book":
                continue
            pages, course = found
            self.assertIs(breaks(printer, plan, promise, found), True)
            self.assertIs(breaks(printer, plan, promise, as_lists(found)), True)
            job = Job(printer, plan, promise, pages)
            if course:
                # Shorter than the shortest one.
                self.assertIs(breaks(printer, plan, promise, (pages, course[:-1])), False)
                self.no_choice(printer, plan, promise, (pages, course[:-1]))
            open_ones = choices(printer, plan, pages, moment(printer, plan, pages, course))
            for choice in open_ones:
                longer = course + (choice,)
                self.assertIs(breaks(printer, plan, promise, (pages, longer)), job.breaks(longer))
            self.no_choice(printer, plan, promise, found)
            if job.breaks(course + (0,)):
                endless += 1
            elif 0 in open_ones:
                at_once += 1
        self.assertGreater(endless, 20)
        self.assertGreater(at_once, 20)

    def no_choice(self, printer, plan, promise, found):
        """One choice more that is none there."""
        pages, course = found
        open_ones = choices(printer, plan, pages, moment(printer, plan, pages, course))
        for choice in (-1, 0, 1, 2, 3, 4, 5, 6):
            if choice not in open_ones:
                self.assertIs(breaks(printer, plan, promise, (pages, course + (choice,))), False)

    def test_other_pages(self):
        for printer, plan, promise in random_cases(52, 300):
            word, found = decide(printer, plan, promise)
            if word == "course":
                for pages in (0, 1, 2, found[0] + 1, found[0] + 20):
                    wanted = Job(printer, plan, promise, pages).breaks(found[1])
                    self.assertIs(breaks(printer, plan, promise, (pages, found[1])), wanted)


class CoursesByChance(Case):
    def test_as_the_words_say(self):
        """Along courses by chance, each beginning is asked of; what broke stays asked of."""
        chance = random.Random(7)
        count = {True: 0, False: 0}
        for printer, plan, promise in random_cases(53, 500):
            job = Job(printer, plan, promise, chance.randrange(6))
            now, course = START, ()
            for _ in range(40):
                wanted = job.breaks(course)
                count[wanted] += 1
                self.assertIs(breaks(printer, plan, promise, (job.pages, course)), wanted)
                moves = job.moves(now)
                if not moves:
                    break
                choice, now, _ = chance.choice(moves[:2] if chance.random() < 0.7 else moves)
                course += (choice,)
        self.assertGreater(count[True], 300)
        self.assertGreater(count[False], 3000)

    def test_plans_that_keep_it(self):
        """No course breaks a promise that a plan keeps."""
        chance = random.Random(8)
        for printer, lines, promise in KEPT:
            plan = Plan(lines)
            for pages in (0, 1, 2, 9):
                job = Job(printer, plan, promise, pages)
                now, course = START, ()
                for _ in range(60):
                    moves = job.moves(now)
                    if not moves:
                        break
                    choice, now, _ = chance.choice(moves[:2] if chance.random() < 0.8 else moves)
                    course += (choice,)
                    self.assertIs(breaks(printer, plan, promise, (pages, course)), False)


if __name__ == "__main__":
    unittest.main()
