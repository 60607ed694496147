"""Points 1 to 12 and 16, over the whole program."""

import importlib
import inspect
import unittest

from helpers import Case, as_lists
from pagesonce.checking import book_holds, breaks
from pagesonce.console import Console
from pagesonce.deciding import decide, idle_lines
from pagesonce.errors import BadLine, BadSyntax, BadValue, PageError
from pagesonce.moments import choices, moment
from pagesonce.plans import Plan, Printer
from pagesonce.running import costs, twins
from pagesonce.texts import parse, printed
from samples import COUNT_LINES, IDLE_LINES, KEPT, NOTE_LINES, random_cases

COUNTER = Printer(True, False, True)
BLIND = Printer(False, False, True)
FIRST = (0, 0, False, 0, None, 0, 0)
FITTING = ["printer", "plan"]
FUNCTIONS = {
    "moments": {"choices": FITTING + ["pages", "moment"], "moment": FITTING + ["pages", "course"]},
    "deciding": {"decide": FITTING + ["promise"], "idle_lines": FITTING + ["promise"]},
    "checking": {"breaks": FITTING + ["promise", "value"], "book_holds": FITTING + ["promise", "book"]},
    "running": {"costs": FITTING + ["promise", "pages"], "twins": FITTING + ["pages"]},
    "texts": {"printed": ["value"], "parse": ["text"]},
}
METHODS = {"run": ["self", "command"], "log": ["self"]}


class Interface(Case):
    def test_functions(self):
        for file, functions in FUNCTIONS.items():
            module = importlib.import_module("pagesonce." + file)
            for name, parameters in functions.items():
                function = vars(module)[name]
                self.assertEqual(function.__module__, module.__name__)
                self.assertEqual(list(inspect.signature(function).parameters), parameters)

    def test_classes(self):
        self.assertEqual(list(inspect.signature(Printer).parameters), ["counts", "remembers", "tells"])
        self.assertEqual(list(inspect.signature(Plan).parameters), ["lines"])
        self.assertEqual(list(inspect.signature(Console).parameters), [])
        for error in (BadValue, BadLine, BadSyntax):
            self.assertEqual(list(inspect.signature(error).parameters), ["at"])
            self.assertEqual(error.__bases__, (PageError,))
        for made, file in ((Printer, "plans"), (Plan, "plans"), (Console, "console"), (BadSyntax, "errors"),
                           (PageError, "errors")):
            self.assertEqual(made.__module__, "pagesonce." + file)
        for name in ("counts", "remembers", "tells"):
            self.assertIsInstance(vars(Printer)[name], property)
        self.assertIsInstance(vars(Plan)["lines"], property)
        self.assertIn("__len__", vars(Plan))

    def test_methods_of_the_console(self):
        for name, parameters in METHODS.items():
            self.assertEqual(list(inspect.signature(vars(Console)[name]).parameters), parameters)
        self.assertIsInstance(vars(Console)["replayed"], (staticmethod, classmethod))
        self.assertEqual(list(inspect.signature(Console.replayed).parameters), ["log"])


class OrderOfErrors(Case):
    """Of two wrong arguments, the first one is told."""

    wrong = (None, 10 ** 30, "wrong", (), [None])

    def test_functions(self):
        plan = Plan(COUNT_LINES)
        for call, good in (
            (choices, (COUNTER, plan, 1, FIRST)), (moment, (COUNTER, plan, 1, ())),
            (decide, (COUNTER, plan, "once")), (idle_lines, (COUNTER, plan, "once")),
            (costs, (COUNTER, plan, "once", 1)), (twins, (BLIND, Plan(NOTE_LINES), 1)),
            (breaks, (COUNTER, plan, "once")), (book_holds, (COUNTER, plan, "once")),
            (Printer, (True, False, True)),
        ):
            asked = len(good)
            if call in (breaks, book_holds):
                # The last argument may be anything.
                good = good + (None,)
            call(*good)
            for place in range(asked):
                for wrong in self.wrong:
                    if (call, place, wrong) == (moment, 3, ()):
                        continue
                    one = good[:place] + (wrong,) + good[place + 1:]
                    self.assertBadValue(place + 1, call, *one)
                    rest = good[:place] + (wrong,) + (None,) * (len(good) - place - 1)
                    self.assertBadValue(place + 1, call, *rest)

    def test_plans_that_do_not_fit(self):
        """They are told behind the printer, and ahead of all else."""
        plan = Plan(COUNT_LINES)
        for call, many in ((choices, 2), (moment, 2), (decide, 1), (idle_lines, 1), (costs, 2), (twins, 1),
                           (breaks, 2), (book_holds, 2)):
            self.assertBadValue(2, call, BLIND, plan, *(None,) * many)
            self.assertBadValue(2, call, BLIND, plan.lines, *(None,) * many)
            self.assertBadValue(1, call, "blind", plan, *(None,) * many)


class Values(Case):
    """Point 12: what is returned, and what becomes of what is passed."""

    def assertPlain(self, value):
        self.assertIn(type(value), (tuple, int, bool, str, type(None)))
        if type(value) is tuple:
            for item in value:
                self.assertPlain(item)

    def test_plain_tuples(self):
        for printer, plan, promise in random_cases(101, 60):
            lines = as_lists(plan.lines)
            plan = Plan(lines)
            word, found = decide(printer, plan, promise)
            course = found[1] if word == "course" else ()
            returned = [(word, found), idle_lines(printer, plan, promise), costs(printer, plan, promise, 2), plan.lines,
                        moment(printer, plan, 2, [0]), choices(printer, plan, 2, list(FIRST)),
                        moment(printer, plan, 2, course) if word == "course" and found[0] == 2 else None,
                        breaks(printer, plan, promise, as_lists(found)), book_holds(printer, plan, promise, found)]
            if not printer.counts and not printer.remembers:
                returned.append(twins(printer, plan, 2))
            for value in returned:
                self.assertPlain(value)
            self.assertEqual(lines, as_lists(plan.lines))

    def test_later_changes(self):
        lines = as_lists(NOTE_LINES)
        plan = Plan(lines)
        before = [decide(BLIND, plan, "least"), costs(BLIND, plan, "least", 3), twins(BLIND, plan, 3), printed(plan)]
        lines[0][0] = "end"
        lines[1][2] = 0
        del lines[3:]
        after = [decide(BLIND, plan, "least"), costs(BLIND, plan, "least", 3), twins(BLIND, plan, 3), printed(plan)]
        self.assertEqual(after, before)
        self.assertEqual(parse(printed(plan)), Plan(NOTE_LINES))

    def test_flags(self):
        for printer, lines, promise in KEPT[::10]:
            book = decide(printer, Plan(lines), promise)[1]
            self.assertIs(book_holds(printer, Plan(lines), promise, book), True)
            self.assertIs(book_holds(printer, Plan(lines), promise, 1), False)
            self.assertIs(breaks(printer, Plan(lines), promise, (0, ())), False)
        self.assertIs(breaks(BLIND, Plan((("go", 0),)), "once", (0, ())), True)

    def test_whole_answers_may_be_passed(self):
        """What the package has returned is no error anywhere that any value may stand."""
        plan = Plan(COUNT_LINES)
        returned = [decide(COUNTER, plan, "once"), decide(COUNTER, plan, "once")[1], plan.lines, printed(plan),
                    moment(COUNTER, plan, 1, ()), idle_lines(COUNTER, plan, "once"), twins(BLIND, Plan(NOTE_LINES), 1),
                    costs(COUNTER, plan, "once", 300), True, False, None, Console().log()]
        for value in returned:
            self.assertIs(breaks(COUNTER, plan, "once", value), False)
            self.assertIs(book_holds(COUNTER, plan, "once", value), value == returned[1])
            self.assertBadValue(1, decide, value, plan, "once")
            self.assertBadValue(2, costs, COUNTER, value, "once", 1)
            self.assertBadValue(3, idle_lines, COUNTER, plan, value)
            self.assertBadValue(3, twins, BLIND, Plan(NOTE_LINES), value)
            self.assertBadValue(4, costs, COUNTER, plan, "once", value)
            self.assertBadValue(1, printed, value)
            if not isinstance(value, str):
                self.assertBadValue(1, parse, value)
                self.assertBadValue(1, Console.replayed, value)


class OneOfTwo(Case):
    def test_book_or_course(self):
        """Point 1: what is found holds, or breaks; the other one does not exist."""
        found = {"book": 0, "course": 0}
        for printer, plan, promise in random_cases(102, 500):
            word, value = decide(printer, plan, promise)
            found[word] += 1
            self.assertIs(book_holds(printer, plan, promise, value), word == "book")
            self.assertIs(breaks(printer, plan, promise, value), word == "course")
            if word == "book":
                self.assertEqual(decide(printer, plan, "least"), (word, value))
                for pages in (0, 1, 2, 9):
                    self.assertIs(breaks(printer, plan, promise, (pages, ())), False)
                    self.assertIsNotNone(costs(printer, plan, promise, pages))
        self.assertGreater(min(found.values()), 10)

    def test_idle_lines_may_be_ends(self):
        """Point 10: the same book holds for the plan with ends in place of its idle lines."""
        printer = Printer(True, False, True)
        plan = Plan(IDLE_LINES)
        book = decide(printer, plan, "once")[1]
        lines = list(IDLE_LINES)
        for at in idle_lines(printer, plan, "once"):
            lines[at] = ("end",)
        self.assertNotEqual(Plan(lines), plan)
        self.assertIs(book_holds(printer, Plan(lines), "once", book), True)
        self.assertEqual(decide(printer, Plan(lines), "once"), ("book", book))


if __name__ == "__main__":
    unittest.main()
