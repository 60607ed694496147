"""Points 12, 14, 15 and 16: printers, plans, and what fits."""

import itertools
import unittest

from helpers import Case, as_lists
from pagesonce.checking import book_holds, breaks
from pagesonce.deciding import decide, idle_lines
from pagesonce.moments import choices, moment
from pagesonce.plans import Plan, Printer
from pagesonce.running import costs
from samples import COUNT_LINES, NOTE_LINES, PRINTERS, SIXTEEN_LINES

NO_FLAGS = (0, 1, None, "True", "", (), [], (True,), [False], 2)
NO_INTEGERS = (True, False, None, "0", "", (0,), [0], ())
FIRST = (0, 0, False, 0, None, 0, 0)


class Printers(Case):
    def test_properties(self):
        for able in itertools.product((False, True), repeat=3):
            printer = Printer(*able)
            self.assertIs(printer.counts, able[0])
            self.assertIs(printer.remembers, able[1])
            self.assertIs(printer.tells, able[2])

    def test_names_of_arguments(self):
        printer = Printer(tells=True, counts=False, remembers=True)
        self.assertEqual(printer, Printer(False, True, True))

    def test_wrong_arguments(self):
        for wrong in NO_FLAGS:
            self.assertBadValue(1, Printer, wrong, True, True)
            self.assertBadValue(2, Printer, True, wrong, False)
            self.assertBadValue(3, Printer, False, False, wrong)

    def test_first_wrong_argument_is_told(self):
        self.assertBadValue(1, Printer, 0, 1, 0)
        self.assertBadValue(1, Printer, 1, True, 1)
        self.assertBadValue(2, Printer, False, 0, 1)

    def test_equality(self):
        for one, other in itertools.product((False, True), repeat=2):
            for able in itertools.product((one, other), repeat=3):
                same = able == (one, one, one)
                self.assertIs(Printer(*able) == Printer(one, one, one), same)
                self.assertIs(Printer(*able) != Printer(one, one, one), not same)
        for able, other in itertools.product(itertools.product((False, True), repeat=3), repeat=2):
            self.assertIs(Printer(*able) == Printer(*other), able == other)

    def test_equals_nothing_else(self):
        for other in (True, None, 1, "Printer", (True, True, True), [True, True, True],
                      Plan((("end",),))):
            self.assertFalse(Printer(True, True, True) == other)
            self.assertTrue(Printer(True, True, True) != other)
            self.assertFalse(other == Printer(True, True, True))


class Plans(Case):
    def test_lines(self):
        for lines in (COUNT_LINES, NOTE_LINES, SIXTEEN_LINES, (("end",),), (("go", 0),)):
            plan = Plan(lines)
            self.assertSame(plan.lines, lines)
            self.assertEqual(len(plan), len(lines))

    def test_name_of_argument(self):
        self.assertEqual(Plan(lines=COUNT_LINES), Plan(COUNT_LINES))

    def test_every_word(self):
        lines = (("recall",), ("note",), ("count",), ("add",), ("send",), ("wait",), ("end",),
                 ("go", 0), ("if", "done", 9), ("if", "ok", 9), ("end",))
        self.assertSame(Plan(lines).lines, lines)

    def test_lists_at_every_level(self):
        for lines in (COUNT_LINES, SIXTEEN_LINES):
            self.assertSame(Plan(as_lists(lines)).lines, lines)
            self.assertSame(Plan(list(lines)).lines, lines)
            self.assertSame(Plan(tuple(as_lists(lines))).lines, lines)

    def test_later_changes_have_no_effect(self):
        lines = as_lists(COUNT_LINES)
        plan = Plan(lines)
        lines[1][2] = 0
        lines[2][0] = "send"
        lines.append(["end"])
        self.assertSame(plan.lines, COUNT_LINES)
        self.assertEqual(len(plan), 7)

    def test_argument_is_not_changed(self):
        lines = as_lists(SIXTEEN_LINES)
        Plan(lines)
        self.assertEqual(lines, as_lists(SIXTEEN_LINES))

    def test_how_many_lines(self):
        end = ("end",)
        self.assertEqual(len(Plan((end,))), 1)
        self.assertEqual(len(Plan([end] * 16)), 16)
        self.assertBadValue(1, Plan, [end] * 17)
        self.assertBadValue(1, Plan, [end] * 20000)
        self.assertBadValue(1, Plan, ())
        self.assertBadValue(1, Plan, [])

    def test_lines_that_are_no_sequence(self):
        for wrong in (None, True, 0, 7, "", "end", "end\n"):
            self.assertBadValue(1, Plan, wrong)

    def test_too_many_lines_are_told_ahead_of_wrong_ones(self):
        self.assertBadValue(1, Plan, [None] * 17)

    def test_no_lines(self):
        wrong_lines = (
            (), [], "end", None, True, 0, ("stop",), ("END",), ("",), (0,), (None,), (("end",),),
            ("end", 0), ("recall", "note"), ("recall", 0), ("go",), ("go", 0, 0), ("go", "0"),
            ("if", "done"), ("if", 0), ("if",), ("if", "done", 0, 0), ("if", "not", 0),
            ("if", 0, "done"), ("if", None, 0), ("if", ["done"], 0), ("if", "done", "ok"),
            ("done", 0), ("ok", 0), ("if", "ok"), (["go"], 0), ("go", "end"), ("wait", "ok", 0),
            ("add", 1), "go", ("go", 0, "if"), ("go", 10 ** 30),
        )
        for wrong in wrong_lines:
            self.assertBadLine(0, Plan, [wrong, ("end",)])
            self.assertBadLine(1, Plan, [("end",), wrong, ("end",)])
            self.assertBadLine(1, Plan, (("end",), wrong))

    def test_jumps(self):
        self.assertSame(Plan((("go", 1), ("end",))).lines, (("go", 1), ("end",)))
        for word in ("done", "ok"):
            self.assertEqual(len(Plan((("if", word, 1), ("end",)))), 2)
            self.assertBadLine(0, Plan, (("if", word, 2), ("end",)))
            self.assertBadLine(0, Plan, (("if", word, -1), ("end",)))
        self.assertEqual(len(Plan([("go", 15)] * 16)), 16)
        self.assertBadLine(0, Plan, [("go", 16)] * 16)
        self.assertBadLine(0, Plan, (("go", 2), ("end",)))
        self.assertBadLine(0, Plan, (("go", -1), ("end",)))

    def test_numbers_of_lines_are_integers(self):
        for wrong in NO_INTEGERS:
            self.assertBadLine(0, Plan, (("go", wrong), ("end",)))
            self.assertBadLine(0, Plan, (("if", "done", wrong), ("end",)))
            self.assertBadLine(0, Plan, (("if", "ok", wrong), ("end",)))

    def test_last_line(self):
        for last in (("recall",), ("note",), ("count",), ("add",), ("send",), ("wait",),
                     ("if", "done", 0), ("if", "ok", 1)):
            self.assertBadLine(1, Plan, (("end",), last))
        self.assertBadLine(0, Plan, (("wait",),))
        self.assertBadLine(15, Plan, [("wait",)] * 16)

    def test_first_wrong_line_is_told(self):
        self.assertBadLine(1, Plan, (("end",), ("stop",), None, ("wait",)))
        self.assertBadLine(2, Plan, (("end",), ("end",), None, ("wait",)))
        self.assertBadLine(0, Plan, (("go", 9), ("wait",)))

    def test_equality(self):
        self.assertTrue(Plan(COUNT_LINES) == Plan(as_lists(COUNT_LINES)))
        self.assertFalse(Plan(COUNT_LINES) != Plan(COUNT_LINES))
        self.assertFalse(Plan(COUNT_LINES) == Plan(NOTE_LINES))
        self.assertFalse(Plan((("go", 1), ("end",))) == Plan((("go", 0), ("end",))))
        self.assertFalse(Plan((("end",),)) == Plan((("end",), ("end",))))

    def test_equals_nothing_else(self):
        plan = Plan((("end",),))
        for other in (True, None, 1, "end", (("end",),), [["end"]], PRINTERS[0]):
            self.assertFalse(plan == other)
            self.assertTrue(plan != other)
            self.assertFalse(other == plan)


class Fitting(Case):
    """Each function with a printer and a plan asks for them in the same way."""

    calls = (
        lambda printer, plan: choices(printer, plan, 1, FIRST),
        lambda printer, plan: moment(printer, plan, 1, ()),
        lambda printer, plan: decide(printer, plan, "once"),
        lambda printer, plan: idle_lines(printer, plan, "once"),
        lambda printer, plan: breaks(printer, plan, "once", (1, ())),
        lambda printer, plan: book_holds(printer, plan, "once", ()),
        lambda printer, plan: costs(printer, plan, "once", 1),
        # What is wrong behind them is told later.
        lambda printer, plan: choices(printer, plan, None, None) if unfit(printer, plan) else None,
        lambda printer, plan: moment(printer, plan, None, None) if unfit(printer, plan) else None,
        lambda printer, plan: decide(printer, plan, None) if unfit(printer, plan) else None,
        lambda printer, plan: idle_lines(printer, plan, None) if unfit(printer, plan) else None,
        lambda printer, plan: breaks(printer, plan, None, None) if unfit(printer, plan) else None,
        lambda printer, plan: book_holds(printer, plan, None, None) if unfit(printer, plan) else None,
        lambda printer, plan: costs(printer, plan, None, None) if unfit(printer, plan) else None,
    )

    def test_no_printer(self):
        for call in self.calls:
            for wrong in (None, True, 0, "printer", (True, True, True), [], Plan(NOTE_LINES)):
                self.assertBadValue(1, call, wrong, Plan(NOTE_LINES))
                self.assertBadValue(1, call, wrong, None)

    def test_no_plan(self):
        for call in self.calls:
            for wrong in (None, True, 0, "plan", NOTE_LINES, (), PRINTERS[0]):
                self.assertBadValue(2, call, PRINTERS[0], wrong)
                self.assertBadValue(2, call, PRINTERS[7], wrong)

    def test_counting_plans(self):
        idle_count = Plan((("end",), ("count",), ("end",)))
        for call in self.calls:
            for printer in PRINTERS:
                for plan in (Plan(COUNT_LINES), idle_count):
                    if printer.counts:
                        call(printer, plan)
                    else:
                        self.assertBadValue(2, call, printer, plan)
                call(printer, Plan(NOTE_LINES))


def unfit(printer, plan):
    """Whether Fitting's calls with wrong arguments behind these are to be made."""
    if not isinstance(printer, Printer) or not isinstance(plan, Plan):
        return True
    return ("count",) in plan.lines and not printer.counts


if __name__ == "__main__":
    unittest.main()
