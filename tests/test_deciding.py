"""Points 1, 4, 9, 10 and 26 to 33: promises, books and courses."""

import unittest

from helpers import ODD_VALUES, Case, as_lists
from pagesonce.deciding import decide, idle_lines
from pagesonce.moments import choices, moment
from pagesonce.plans import Plan, Printer
from reference import START, Job, order, sample
from samples import (AHEAD_LINES, COUNT_LINES, FAR_LINES, KEPT, NOTE_BLINDLY_LINES, NOTE_LINES, PRINTERS,
                     RESEND_LINES, SIXTEEN_LINES, STAY_LINES, random_cases, with_line)

COUNTER = Printer(True, False, True)
BLIND = Printer(False, False, True)
PROMISES = ("once", "least")


class Examples(Case):
    """Those at the end of part 1."""

    def test_examples(self):
        counting = Printer(True, False, True)
        plan = Plan((("count",), ("if", "done", 6), ("add",), ("send",), ("wait",), ("go", 0), ("end",)))
        self.assertEqual(decide(counting, plan, "once")[0], "book")
        blind = Printer(False, False, True)
        other = Plan((("recall",), ("if", "done", 7), ("add",), ("send",), ("wait",), ("note",), ("go", 0),
                      ("end",)))
        self.assertEqual(decide(blind, other, "once")[0], "course")
        self.assertEqual(decide(blind, other, "least")[0], "course")


class Arguments(Case):
    def test_wrong_promises(self):
        for call in (decide, idle_lines):
            for wrong in ODD_VALUES:
                self.assertBadValue(3, call, COUNTER, Plan(COUNT_LINES), wrong)

    def test_first_wrong_argument_is_told(self):
        for call in (decide, idle_lines):
            self.assertBadValue(1, call, None, None, None)
            self.assertBadValue(2, call, COUNTER, None, None)
            self.assertBadValue(2, call, BLIND, Plan(COUNT_LINES), "ever")
            self.assertBadValue(3, call, COUNTER, Plan(COUNT_LINES), "ever")

    def test_names_of_arguments(self):
        plan = Plan(COUNT_LINES)
        self.assertEqual(decide(promise="once", plan=plan, printer=COUNTER), decide(COUNTER, plan, "once"))
        self.assertEqual(idle_lines(promise="once", plan=plan, printer=COUNTER), ())

    def test_plans_from_lists(self):
        lines = as_lists(COUNT_LINES)
        plan = Plan(lines)
        lines[0][0] = "wait"
        self.assertSame(decide(COUNTER, plan, "once"), decide(COUNTER, Plan(COUNT_LINES), "once"))

    def test_same_for_equal_arguments(self):
        for printer, plan, promise in random_cases(3, 40):
            same = Printer(printer.counts, printer.remembers, printer.tells), Plan(plan.lines)
            self.assertSame(decide(printer, plan, promise), decide(*same, promise))


class Broken(Case):
    """Ways to break a promise at once, or never to fulfil it, one by one."""

    def shortest(self, lines, wanted, printers=PRINTERS, promises=PROMISES):
        """Each pair (pages, course) that is returned is one of those wanted."""
        for printer in printers:
            for promise in promises:
                word, found = decide(printer, Plan(lines), promise)
                self.assertEqual(word, "course")
                self.assertTrue(Job(printer, Plan(lines), promise, found[0]).breaks(found[1]))
                self.assertIn(found, wanted, (lines, promise))
                self.assertSame(found, wanted[wanted.index(found)])

    def any_pages(self, course, least=0):
        return [(pages, course) for pages in range(least, 21)]

    def test_ends_too_early(self):
        self.shortest((("end",),), self.any_pages((0,), 1))

    def test_ends_with_a_sheet_on_its_way(self):
        lines = (("if", "done", 3), ("add",), ("send",), ("end",))
        self.shortest(lines, self.any_pages((0, 0, 0, 0), 1))

    def test_ends_with_all_pages_and_a_sheet_on_its_way(self):
        # All pages lie; the sheet that is sent once more would not be taken.
        lines = COUNT_LINES[:6] + (("send",), ("end",))
        remembering = [printer for printer in PRINTERS if printer.counts and printer.remembers]
        self.shortest(lines, [(0, (0, 0, 0, 0))], remembering)

    def test_sheet_zero(self):
        forgetting = [printer for printer in PRINTERS if not printer.remembers]
        lines = (("send",), ("wait",), ("go", 2))
        # Nothing is wrong with the run but the sheet: it is put, and is no page.
        self.shortest(lines, self.any_pages((0, 1)) + self.any_pages((0, 3)), forgetting)
        # A printer that remembers puts none; the house is then busy for ever.
        remembering = [printer for printer in PRINTERS if printer.remembers]
        self.shortest(lines, self.any_pages(()), remembering)

    def test_sheet_above_the_pages(self):
        lines = (("if", "done", 1), ("add",), ("send",), ("wait",), ("go", 0))
        self.shortest(lines, [(0, (0, 0, 0, 1)), (0, (0, 0, 0, 3))])

    def test_sheet_skipped(self):
        lines = (("if", "done", 5), ("add",), ("add",), ("send",), ("wait",), ("end",))
        wanted = (0, 0, 0, 0)
        self.shortest(lines, self.any_pages(wanted + (1,), 1) + self.any_pages(wanted + (3,), 1))

    def test_sheet_put_twice(self):
        lines = (("if", "done", 9), ("add",), ("send",), ("send",), ("wait",), ("recall",), ("add",),
                 ("note",), ("go", 0), ("end",))
        twice = [(pages, (0, 0, 0, 1, 0, choice)) for pages in range(1, 21) for choice in (1, 3)]
        forgetting = [printer for printer in PRINTERS if not printer.remembers]
        self.shortest(lines, twice, forgetting, ("once",))

    def test_numbers_up_to_three_may_stay(self):
        for many in (1, 2, 3):
            lines = [("add",)] * many + [("go", many)]
            self.shortest(lines, self.any_pages(()))

    def test_at_above_three(self):
        self.shortest([("add",)] * 4 + [("go", 4)], self.any_pages((0,) * 4))
        self.shortest((("add",), ("go", 0)), self.any_pages((0,) * 7))

    def test_note_stays_behind(self):
        # note is 3 at all times, which may stay.
        self.assertEqual(decide(COUNTER, Plan(STAY_LINES), "once")[0], "book")
        # note is 4 behind a cut when page 1 lies; page 8 leaves it behind.
        lines = (("count",), ("add",), ("add",), ("add",), ("note",)) + STAY_LINES[5:]
        word, (pages, course) = decide(COUNTER, Plan(lines), "once")
        self.assertEqual(word, "course")
        self.assertEqual(moment(COUNTER, Plan(lines), pages, course)[3:6:2], (4, 8))

    def test_three_away_from_last_is_near_enough(self):
        self.assertEqual(decide(COUNTER, Plan(AHEAD_LINES), "once")[0], "book")
        lines = with_line(list(AHEAD_LINES), 1, ("add",))
        self.assertEqual(decide(COUNTER, Plan(lines), "once")[1][1], (0,) * 5)

    def test_sheets_too_many(self):
        # Each cut may put page 1 once more; with a count line the fifth one is too many.
        lines = NOTE_LINES + (("count",), ("end",))
        word, (pages, course) = decide(COUNTER, Plan(lines), "least")
        self.assertEqual(word, "course")
        self.assertEqual(len(course), 25)
        self.assertEqual(moment(COUNTER, Plan(lines), pages, course)[5:], (1, 5))
        self.assertEqual(decide(COUNTER, Plan(NOTE_LINES), "least")[0], "book")

    def test_never_fulfilled(self):
        self.shortest((("go", 0),), self.any_pages(()))
        self.shortest((("wait",), ("go", 0)), self.any_pages(()))
        self.shortest((("if", "done", 0), ("go", 0)), self.any_pages(()))

    def test_busy_while_a_sheet_is_on_its_way(self):
        # The sheet would come to lie, but the house never asks for it.
        lines = (("if", "done", 5), ("add",), ("send",), ("if", "ok", 0), ("go", 3), ("end",))
        self.shortest(lines, self.any_pages((), 1))

    def test_never_fulfilled_behind_pages(self):
        # The house ends only if there is no page; else it waits for ever at the end.
        lines = (("count",), ("if", "done", 6), ("add",), ("send",), ("wait",), ("go", 0), ("if", "ok", 6),
                 ("end",))
        word, (pages, course) = decide(COUNTER, Plan(lines), "once")
        self.assertEqual((word, course), ("course", ()))
        self.assertGreater(pages, 0)
        self.assertTrue(Job(COUNTER, Plan(lines), "once", pages).never(START))

    def test_never_fulfilled_behind_a_jam(self):
        # A jam that is told makes the house wait for ever.
        lines = (("count",), ("if", "done", 7), ("add",), ("send",), ("wait",), ("if", "ok", 0), ("go", 6),
                 ("end",))
        word, (pages, course) = decide(COUNTER, Plan(lines), "once")
        self.assertEqual((word, course), ("course", (0, 0, 0, 0, 2)))
        self.assertGreater(pages, 0)
        self.assertTrue(Job(COUNTER, Plan(lines), "once", pages).breaks(course))
        self.assertEqual(decide(Printer(True, False, False), Plan(lines), "once")[0], "book")

    def test_never_fulfilled_with_one_number_of_pages(self):
        # Behind page 1 the house waits for ever if there are two pages.
        lines = (("count",), ("if", "done", 12), ("add",), ("send",), ("wait",), ("recall",), ("add",),
                 ("if", "done", 0), ("add",), ("if", "done", 11), ("go", 0), ("go", 11), ("end",))
        self.shortest(lines, [(2, ())], [printer for printer in PRINTERS if printer.counts])
        # Behind page 2 the house is busy for ever if there are five pages; else it ends.
        lines = (("add",), ("send",), ("wait",), ("add",), ("note",), ("add",), ("add",), ("if", "done", 15),
                 ("recall",), ("send",), ("wait",), ("add",), ("add",), ("add",), ("if", "done", 14), ("end",))
        self.shortest(lines, [(5, ())])

    def test_a_break_far_away(self):
        for printer in PRINTERS:
            if printer.remembers and printer.tells:
                word, (pages, course) = decide(printer, Plan(FAR_LINES), "once")
                self.assertEqual(word, "course")
                self.assertGreater(len(course), 200)
                self.assertTrue(Job(printer, Plan(FAR_LINES), "once", pages).breaks(course))


class Books(Case):
    def book(self, printer, lines, promise):
        word, book = decide(printer, Plan(lines), promise)
        self.assertEqual(word, "book", (lines, promise))
        return book

    def test_form_of_kinds(self):
        for printer, lines, promise in KEPT:
            book = self.book(printer, lines, promise)
            self.assertPlain(book)
            for line, at, ok, note, way, lying, small, left in book:
                self.assertTrue(line is None or line in range(len(lines)))
                self.assertTrue(ok is True or ok is False)
                self.assertTrue(0 <= small <= 8 and 0 <= left <= 5)
                for pair in [at, note, lying] + ([way] if way and way[0] != "told" else []):
                    self.assertPair(pair, small)
                if way and way[0] == "told":
                    self.assertIn(way[1], (True, False))

    def assertPlain(self, value):
        """Plain tuples, integers, None, True, False and "told", at every level."""
        self.assertIn(type(value), (tuple, int, bool, str, type(None)))
        if type(value) is tuple:
            for item in value:
                self.assertPlain(item)

    def assertPair(self, pair, small):
        self.assertEqual([type(number) for number in pair], [int, int])
        far, number = pair
        if far == 0:
            self.assertTrue(-3 <= number <= 3 and small + number >= 0)
        else:
            self.assertTrue(far == 1 and 0 <= number <= 3 and number < small - 3)

    def test_ascending(self):
        for printer, lines, promise in KEPT:
            ranks = [order(kind) for kind in self.book(printer, lines, promise)]
            for one, other in zip(ranks, ranks[1:]):
                self.assertLess(one, other)

    def test_first_kinds(self):
        for printer, lines, promise in KEPT:
            book = self.book(printer, lines, promise)
            for left in range(6):
                self.assertIn((0, (0, 0), False, (0, 0), None, (0, 0), 0, left), book)

    def test_closed(self):
        """Point 31, asked of each kind at two moments of it."""
        for printer, lines, promise in KEPT:
            book = self.book(printer, lines, promise)
            known = set(book)
            for kind in book:
                for last_more, left_more in ((0, 0), (4, 3)):
                    now, pages = sample(kind, last_more, left_more)
                    job = Job(printer, Plan(lines), promise, pages)
                    self.assertEqual(job.kind(now), kind)
                    for choice, then, wrong in job.moves(now):
                        self.assertFalse(wrong, (kind, choice))
                        self.assertIn(job.kind(then), known, (kind, choice))

    def test_no_round_without_a_page(self):
        for printer, lines, promise in KEPT:
            for kind in self.book(printer, lines, promise):
                self.assertEnds(printer, lines, promise, kind)

    def assertEnds(self, printer, lines, promise, kind):
        """The run from a kind ends, or last becomes greater."""
        now, pages = sample(kind)
        job = Job(printer, Plan(lines), promise, pages)
        seen = {now}
        moves = job.moves(now)
        while moves and moves[0][1].last == now.last:
            now = moves[0][1]
            self.assertNotIn(now, seen)
            seen.add(now)
            moves = job.moves(now)

    def test_no_kind_too_many(self):
        """The kinds are those that come about with 0 to 15 pages, no more and no less."""
        for printer, lines, promise in KEPT:
            if len(lines) > 12 and printer != Printer(False, True, True):
                continue
            come = set()
            for pages in range(16):
                job = Job(printer, Plan(lines), promise, pages)
                come.update(job.kind(now) for now in job.moments())
            self.assertEqual(set(self.book(printer, lines, promise)), come)

    def test_once_and_least(self):
        """Point 9."""
        kept = 0
        cases = [(printer, Plan(lines)) for printer, lines, promise in KEPT]
        cases += [(printer, plan) for printer, plan, _ in random_cases(21, 400)]
        for printer, plan in cases:
            found = decide(printer, plan, "once")
            if found[0] == "book":
                kept += 1
                self.assertSame(decide(printer, plan, "least"), found)
        self.assertGreater(kept, 30)

    def test_idle_lines_may_be_ends(self):
        """Point 10."""
        changed = 0
        cases = [(printer, Plan(lines), promise) for printer, lines, promise in KEPT]
        for printer, plan, promise in cases + random_cases(22, 400):
            found = decide(printer, plan, promise)
            idle = [at for at in idle_lines(printer, plan, promise) if plan.lines[at] != ("count",)]
            if found[0] == "book" and idle:
                changed += 1
                for places in [idle] + [[at] for at in idle]:
                    lines = [("end",) if at in places else row for at, row in enumerate(plan.lines)]
                    self.assertSame(decide(printer, Plan(lines), promise), found)
        self.assertGreater(changed, 5)

    def test_kinds_of_an_ended_house(self):
        for printer, lines, promise in KEPT:
            ended = [kind for kind in self.book(printer, lines, promise) if kind[0] is None]
            self.assertTrue(ended)
            for kind in ended:
                self.assertEqual(kind[7], 0)
                self.assertTrue(kind[4] is None or kind[4][0] == "told")

    def test_lying_without_a_count(self):
        for small in range(9):
            lying = (0, -small) if small <= 3 else (1, 0)
            book = self.book(Printer(False, True, True), NOTE_LINES, "once")
            self.assertEqual({kind[5] for kind in book if kind[6] == small}, {lying})

    def test_small_and_left_to_their_ends(self):
        book = self.book(COUNTER, COUNT_LINES, "once")
        self.assertEqual({(kind[6], kind[7]) for kind in book},
                         {(small, left) for small in range(9) for left in range(6)})

    def test_which_printers_keep_the_plans(self):
        for printer in PRINTERS:
            able = printer.remembers and printer.tells
            for lines, once, least in (
                (NOTE_LINES, able, printer.tells),
                (NOTE_BLINDLY_LINES, False, False),
                (SIXTEEN_LINES, able, printer.tells),
                (RESEND_LINES, able, printer.tells),
            ):
                words = {True: "book", False: "course"}
                self.assertEqual(decide(printer, Plan(lines), "once")[0], words[once], lines)
                self.assertEqual(decide(printer, Plan(lines), "least")[0], words[least], lines)
            if printer.counts:
                self.assertEqual(decide(printer, Plan(COUNT_LINES), "once")[0], "book")
                self.assertEqual(decide(printer, Plan(COUNT_LINES), "least")[0], "book")


class CoursesByChance(Case):
    """Point 33, for many plans."""

    def check_course(self, printer, plan, promise, most_pages):
        """Returns the course, or None of a plan that keeps the promise."""
        word, found = decide(printer, plan, promise)
        if word == "book":
            return None
        self.assertEqual(word, "course")
        self.assertEqual([type(part) for part in found], [int, tuple])
        pages, course = found
        self.assertTrue(0 <= pages <= 20000)
        for choice in course:
            self.assertIs(type(choice), int)
        job = Job(printer, plan, promise, pages)
        self.assertTrue(job.breaks(course), (plan.lines, promise, found))
        self.assertEqual(tuple(job_moment(printer, plan, found)), moment(printer, plan, pages, course))
        for other in list(range(most_pages + 1)) + [pages + 1]:
            job = Job(printer, plan, promise, other)
            self.assertFalse(job.has_break_within(len(course) - 1), (plan.lines, promise, found, other))
        return course

    def test_no_shorter_course(self):
        lengths = set()
        for printer, plan, promise in random_cases(31, 500):
            course = self.check_course(printer, plan, promise, 8)
            lengths.add(None if course is None else len(course))
        # Books, courses of no choices, and long ones are among them.
        self.assertTrue({None, 0, 1, 2, 3, 4, 5}.issubset(lengths))
        self.assertGreater(max(length for length in lengths if length is not None), 12)

    def test_no_shorter_course_for_known_plans(self):
        for printer in PRINTERS:
            for promise in PROMISES:
                for lines in (NOTE_LINES, NOTE_BLINDLY_LINES, SIXTEEN_LINES, RESEND_LINES):
                    self.check_course(printer, Plan(lines), promise, 8)

    def test_books_of_chance_plans_are_closed(self):
        kept = 0
        for printer, plan, promise in random_cases(32, 500):
            word, book = decide(printer, plan, promise)
            if word == "book":
                kept += 1
                for pages in (0, 1, 2, 6):
                    job = Job(printer, plan, promise, pages)
                    self.assertFalse(job.has_break_within(40))
                    self.assertTrue({job.kind(now) for now in job.moments()}.issubset(set(book)))
        self.assertGreater(kept, 10)


def job_moment(printer, plan, found):
    """The moment at the end of a course, by the words of the document."""
    pages, course = found
    job = Job(printer, plan, "least", pages)
    now = START
    for choice in course:
        moves = {move[0]: move[1] for move in job.moves(now)}
        assert tuple(moves) == choices(printer, plan, pages, tuple(now))
        now = moves[choice]
    return now


if __name__ == "__main__":
    unittest.main()
