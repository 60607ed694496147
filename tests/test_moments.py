"""Points 5 and 18 to 25: moments, choices and courses."""

import random
import unittest

from helpers import Case, as_lists
from pagesonce.moments import choices, moment
from pagesonce.plans import Plan, Printer
from reference import START, Job
from samples import COUNT_LINES, NOTE_LINES, PRINTERS, SIXTEEN_LINES, random_cases

COUNTER = Printer(True, False, True)
BLIND = Printer(False, False, True)
FIRST = (0, 0, False, 0, None, 0, 0)
# One line of each word; line 10 is the last one.
ALL = Plan((("recall",), ("note",), ("add",), ("send",), ("wait",), ("go", 10), ("if", "done", 10),
            ("if", "ok", 10), ("end",), ("count",), ("end",)))
TOO_MUCH = 10 ** 9 + 1


def at_line(line, way=None, at=0, lying=0):
    return (line, at, False, 0, way, 0, lying)


class Choices(Case):
    def test_without_a_sheet(self):
        for line in range(len(ALL)):
            for way in (None, ("told", True), ("told", False)):
                self.assertSame(choices(COUNTER, ALL, 1, at_line(line, way)), (0, 5))

    def test_with_a_sheet(self):
        for line in range(len(ALL)):
            waits = ALL.lines[line][0] in ("send", "wait")
            wanted = (1, 2, 3, 4) if waits else (0, 1, 2, 3, 4)
            for sheet in (0, 1, -3, 10 ** 9, -10 ** 9):
                self.assertSame(choices(COUNTER, ALL, 1, at_line(line, sheet)), wanted)

    def test_ended(self):
        self.assertSame(choices(COUNTER, ALL, 1, at_line(None)), ())
        self.assertSame(choices(COUNTER, ALL, 1, at_line(None, ("told", True))), ())
        self.assertSame(choices(COUNTER, ALL, 1, at_line(None, ("told", False))), ())
        self.assertSame(choices(COUNTER, ALL, 1, at_line(None, 1)), (1, 2))
        self.assertSame(choices(COUNTER, ALL, 1, at_line(None, 0)), (1, 2))

    def test_lists_at_every_level(self):
        for value in (FIRST, at_line(4, ("told", True)), at_line(4, 1), at_line(None, 2)):
            wanted = choices(COUNTER, ALL, 1, value)
            passed = as_lists(value)
            self.assertSame(choices(COUNTER, ALL, 1, passed), wanted)
            self.assertEqual(passed, as_lists(value))

    def test_names_of_arguments(self):
        self.assertEqual(choices(moment=FIRST, pages=0, plan=ALL, printer=COUNTER), (0, 5))

    def test_pages(self):
        for pages in (0, 1, 10 ** 9):
            self.assertEqual(choices(COUNTER, ALL, pages, FIRST), (0, 5))
        for wrong in (-1, TOO_MUCH, 10 ** 30, True, False, None, "1", (1,), []):
            self.assertBadValue(3, choices, COUNTER, ALL, wrong, FIRST)
            self.assertBadValue(3, choices, COUNTER, ALL, wrong, None)

    def test_numbers_of_a_moment(self):
        for number in (10 ** 9, -10 ** 9, 0, 3, -1):
            for value in ((0, number, False, 0, None, 0, 0), (0, 0, True, number, None, 0, 0),
                          (0, 0, False, 0, None, number, 0), (0, 0, False, 0, None, 0, number)):
                self.assertEqual(choices(COUNTER, ALL, 5, value), (0, 5))
        for wrong in (TOO_MUCH, -TOO_MUCH, True, False, None, "0", (0,), [], "told"):
            for value in ((0, wrong, False, 0, None, 0, 0), (0, 0, True, wrong, None, 0, 0),
                          (0, 0, False, 0, None, wrong, 0), (0, 0, False, 0, None, 0, wrong)):
                self.assertBadValue(4, choices, COUNTER, ALL, 5, value)

    def test_line_of_a_moment(self):
        for wrong in (-1, 11, True, False, "0", (0,), 10 ** 30):
            self.assertBadValue(4, choices, COUNTER, ALL, 5, at_line(wrong))

    def test_ok_of_a_moment(self):
        for wrong in (0, 1, None, "True", (), [True]):
            self.assertBadValue(4, choices, COUNTER, ALL, 5, (0, 0, wrong, 0, None, 0, 0))

    def test_way_of_a_moment(self):
        for wrong in (True, False, TOO_MUCH, -TOO_MUCH, "told", "", (), [], ("told",), (True,),
                      ("told", 1), ("told", 0), ("told", None), ("said", True), (True, "told"),
                      ("told", True, True), (0, 1), (("told",), True)):
            self.assertBadValue(4, choices, COUNTER, ALL, 5, at_line(0, wrong))
            self.assertBadValue(4, choices, COUNTER, ALL, 5, at_line(None, wrong))

    def test_lying_of_a_plan_that_does_not_count(self):
        plan = Plan(NOTE_LINES)
        for printer in (COUNTER, BLIND):
            self.assertEqual(choices(printer, plan, 5, at_line(0)), (0, 5))
            for lying in (1, -1, 5):
                self.assertBadValue(4, choices, printer, plan, 5, at_line(0, lying=lying))
        self.assertEqual(choices(COUNTER, ALL, 5, at_line(0, lying=7)), (0, 5))

    def test_no_moments(self):
        for wrong in (None, True, 0, "", "moments", "ok", (), [], FIRST[:6], FIRST + (0,), (FIRST,),
                      [FIRST], (None,) * 7, (0,) * 7):
            self.assertBadValue(4, choices, COUNTER, ALL, 5, wrong)


class HouseSteps(Case):
    """What choice 0 does, line by line (point 20)."""

    def led(self, lines, course, pages=2, printer=COUNTER):
        return moment(printer, Plan(lines), pages, course)

    def test_first_moment(self):
        for printer in PRINTERS:
            self.assertSame(moment(printer, Plan(NOTE_LINES), 7, ()), FIRST)
            self.assertSame(moment(printer, Plan(NOTE_LINES), 7, []), FIRST)

    def test_add_note_recall(self):
        lines = (("add",), ("add",), ("note",), ("add",), ("recall",), ("end",))
        self.assertSame(self.led(lines, (0,)), (1, 1, False, 0, None, 0, 0))
        self.assertSame(self.led(lines, (0,) * 3), (3, 2, False, 2, None, 0, 0))
        self.assertSame(self.led(lines, (0,) * 4), (4, 3, False, 2, None, 0, 0))
        self.assertSame(self.led(lines, (0,) * 5), (5, 2, False, 2, None, 0, 0))

    def test_count(self):
        lines = (("count",), ("add",), ("send",), ("wait",), ("count",), ("go", 2))
        self.assertSame(self.led(lines, (0, 0, 0, 1, 0, 0)), (5, 1, True, 0, None, 1, 1))
        twice = (0, 0, 0, 1, 0, 0, 0, 0, 1, 0, 0)
        self.assertSame(self.led(lines, twice), (5, 2, True, 0, None, 1, 2))

    def test_lying_is_not_kept_without_a_count(self):
        lines = (("add",), ("send",), ("wait",), ("go", 1))
        self.assertSame(self.led(lines, (0, 0, 1)), (2, 1, False, 0, ("told", True), 1, 0))

    def test_lying_is_kept_with_an_idle_count(self):
        lines = (("add",), ("send",), ("wait",), ("end",), ("count",), ("end",))
        self.assertSame(self.led(lines, (0, 0, 1)), (2, 1, False, 0, ("told", True), 1, 1))

    def test_send(self):
        lines = (("send",), ("add",), ("send",), ("end",))
        self.assertSame(self.led(lines, (0,)), (1, 0, False, 0, 0, 0, 0))
        # What was to be told is forgotten.
        self.assertSame(self.led(lines, (0, 2, 0, 0)), (3, 1, False, 0, 1, 0, 0))

    def test_wait(self):
        lines = (("send",), ("wait",), ("wait",), ("end",))
        self.assertSame(self.led(lines, (0, 1, 0)), (2, 0, True, 0, None, 0, 0))
        self.assertSame(self.led(lines, (0, 1, 0, 0)), (3, 0, True, 0, None, 0, 0))
        self.assertSame(self.led(lines, (0, 2, 0)), (2, 0, False, 0, None, 0, 0))
        self.assertSame(self.led((("wait",), ("end",)), (0,)), (1, 0, False, 0, None, 0, 0))

    def test_ok_becomes_false_again(self):
        lines = (("send",), ("wait",), ("send",), ("wait",), ("end",))
        self.assertSame(self.led(lines, (0, 1, 0, 0, 2, 0)), (4, 0, False, 0, None, 0, 0))

    def test_go(self):
        self.assertSame(self.led((("go", 2), ("wait",), ("end",)), (0,)), (2,) + FIRST[1:])
        self.assertSame(self.led((("go", 0),), (0,) * 9), FIRST)

    def test_if_done(self):
        lines = (("if", "done", 3), ("add",), ("go", 0), ("end",))
        self.assertSame(self.led(lines, (0,), 0), (3,) + FIRST[1:])
        self.assertSame(self.led(lines, (0,), 1), (1,) + FIRST[1:])
        self.assertSame(self.led(lines, (0,) * 4, 1), (3, 1, False, 0, None, 0, 0))
        self.assertSame(self.led(lines, (0,) * 4, 2), (1, 1, False, 0, None, 0, 0))
        over = (("add",), ("add",), ("if", "done", 4), ("end",), ("end",))
        self.assertSame(self.led(over, (0,) * 3, 1), (4, 2, False, 0, None, 0, 0))
        self.assertSame(self.led(lines, (0,) * 4, 10 ** 9), (1, 1, False, 0, None, 0, 0))

    def test_if_ok(self):
        lines = (("if", "ok", 4), ("send",), ("wait",), ("go", 0), ("end",))
        self.assertSame(self.led(lines, (0,)), (1,) + FIRST[1:])
        self.assertSame(self.led(lines, (0, 0, 1, 0, 0, 0)), (4, 0, True, 0, None, 0, 0))
        self.assertSame(self.led(lines, (0, 0, 2, 0, 0, 0)), (1, 0, False, 0, None, 0, 0))

    def test_end(self):
        self.assertSame(self.led((("end",),), (0,)), (None,) + FIRST[1:])
        lines = (("add",), ("note",), ("send",), ("end",))
        self.assertSame(self.led(lines, (0,) * 4), (None, 1, False, 1, 1, 0, 0))

    def test_sheet_behind_the_end(self):
        lines = (("add",), ("send",), ("end",), ("count",), ("end",))
        self.assertSame(self.led(lines, (0, 0, 0, 1)), (None, 1, False, 0, ("told", True), 1, 1))
        self.assertSame(self.led(lines, (0, 0, 0, 2)), (None, 1, False, 0, ("told", False), 0, 0))
        for choice in range(6):
            self.assertBadValue(4, self.led, lines, (0, 0, 0, 1, choice))


class SheetsAndCuts(Case):
    """Points 21 to 23."""

    lines = (("add",), ("note",), ("send",), ("send",), ("count",), ("end",))

    def led(self, printer, course):
        return moment(printer, Plan(self.lines), 9, course)

    def test_jam(self):
        for tells in (True, False):
            printer = Printer(True, False, tells)
            # A printer that does not tell says that all is well.
            wanted = (3, 1, False, 1, ("told", not tells), 0, 0)
            self.assertSame(self.led(printer, (0, 0, 0, 2)), wanted)

    def test_lie(self):
        for tells in (True, False):
            printer = Printer(True, True, tells)
            wanted = (3, 1, False, 1, ("told", True), 1, 1)
            self.assertSame(self.led(printer, (0, 0, 0, 1)), wanted)

    def test_same_sheet_again(self):
        twice = (0, 0, 0, 1, 0, 1)
        self.assertSame(self.led(Printer(True, True, False), twice), (4, 1, False, 1, ("told", True), 1, 1))
        self.assertSame(self.led(Printer(True, False, False), twice), (4, 1, False, 1, ("told", True), 1, 2))

    def test_lower_sheet(self):
        lines = (("add",), ("send",), ("wait",), ("recall",), ("send",), ("wait",), ("end",), ("count",),
                 ("end",))
        for remembers in (True, False):
            printer = Printer(True, remembers, True)
            led = moment(printer, Plan(lines), 9, (0, 0, 1, 0, 0, 0, 1))
            self.assertSame(led, (5, 0, True, 0, ("told", True), 1, 1 if remembers else 2))

    def test_higher_sheet(self):
        lines = (("add",), ("add",), ("send",), ("wait",), ("add",), ("add",), ("send",), ("end",))
        for printer in PRINTERS:
            led = moment(printer, Plan(lines), 0, (0, 0, 0, 1, 0, 0, 0, 0, 3))
            self.assertSame(led, (0, 0, False, 0, None, 4, 0))

    def test_sheet_zero(self):
        lines = (("send",), ("wait",), ("count",), ("end",))
        self.assertSame(moment(Printer(True, False, True), Plan(lines), 0, (0, 1)),
                        (1, 0, False, 0, ("told", True), 0, 1))
        self.assertSame(moment(Printer(True, True, True), Plan(lines), 0, (0, 1)),
                        (1, 0, False, 0, ("told", True), 0, 0))

    def test_cuts(self):
        printer = Printer(True, False, True)
        self.assertSame(self.led(printer, (0, 0, 5)), (0, 0, False, 1, None, 0, 0))
        self.assertSame(self.led(printer, (0, 0, 0, 3)), (0, 0, False, 1, None, 1, 1))
        self.assertSame(self.led(printer, (0, 0, 0, 4)), (0, 0, False, 1, None, 0, 0))
        # What is to be told, and ok, are forgotten.
        self.assertSame(self.led(printer, (0, 0, 0, 1, 5)), (0, 0, False, 1, None, 1, 1))
        lines = (("send",), ("wait",), ("end",))
        self.assertSame(moment(printer, Plan(lines), 9, (0, 1, 0, 5)), FIRST)

    def test_cut_with_a_sheet_that_is_not_taken(self):
        course = (0, 0, 0, 1, 0, 3)
        self.assertSame(self.led(Printer(True, True, True), course), (0, 0, False, 1, None, 1, 1))
        self.assertSame(self.led(Printer(True, False, True), course), (0, 0, False, 1, None, 1, 2))


class Courses(Case):
    def test_names_of_arguments(self):
        self.assertEqual(moment(course=(0,), pages=0, plan=ALL, printer=COUNTER),
                         (1,) + FIRST[1:])

    def test_pages(self):
        for pages in (0, 10 ** 9):
            self.assertSame(moment(COUNTER, ALL, pages, ()), FIRST)
        for wrong in (-1, TOO_MUCH, True, False, None, "1", (1,), []):
            self.assertBadValue(3, moment, COUNTER, ALL, wrong, ())
            self.assertBadValue(3, moment, COUNTER, ALL, wrong, None)

    def test_no_courses(self):
        plan = Plan(COUNT_LINES)
        for wrong in (None, True, 0, "", "0", "00", (1,), (2,), (3,), (4,), (6,), (-1,), (0, 1), (True,),
                      (False,), (None,), ("0",), ((0,),), [[]], (0, False), [0, 10 ** 30], (0, 5, None)):
            self.assertBadValue(4, moment, COUNTER, plan, 5, wrong)

    def test_choices_that_are_not_open(self):
        plan = Plan(COUNT_LINES)
        sent = (0, 0, 0, 0)
        for choice in (0, 5, 6, -1, True, False):
            self.assertBadValue(4, moment, COUNTER, plan, 5, sent + (choice,))
        for choice in (1, 2, 3, 4):
            self.assertEqual(len(moment(COUNTER, plan, 5, sent + (choice,))), 7)

    def test_lists(self):
        course = [0, 0, 0, 0, 3, 0]
        wanted = moment(COUNTER, Plan(COUNT_LINES), 5, tuple(course))
        self.assertSame(moment(COUNTER, Plan(COUNT_LINES), 5, course), wanted)
        self.assertEqual(course, [0, 0, 0, 0, 3, 0])

    def test_promises_do_not_matter(self):
        led = moment(COUNTER, Plan((("add",), ("go", 0))), 0, (0,) * 1999)
        self.assertSame(led, (1, 1000, False, 0, None, 0, 0))

    def test_long_course(self):
        course = (0, 0, 0, 0, 1, 0, 0) * 2857
        led = moment(COUNTER, Plan(COUNT_LINES), 10 ** 9, course)
        self.assertEqual(led[5:], (2857, 2857))

    def test_courses_by_chance(self):
        """Each moment and its choices, along courses by chance, are those of the words."""
        chance = random.Random(5)
        for printer, plan, promise in random_cases(11, 120) + [(PRINTERS[3], Plan(SIXTEEN_LINES), "once")]:
            job = Job(printer, plan, promise, chance.randrange(5))
            now, course = START, []
            for _ in range(60):
                moves = job.moves(now)
                self.assertSame(choices(printer, plan, job.pages, tuple(now)),
                                tuple(choice for choice, _, _ in moves))
                self.assertSame(moment(printer, plan, job.pages, course), tuple(now))
                if not moves:
                    break
                choice, now, _ = chance.choice(moves[:2] if chance.random() < 0.7 else moves)
                course.append(choice)


if __name__ == "__main__":
    unittest.main()
