"""Points 2, 4, 9 and 29 to 32: books that hold, and values that do not."""

import bisect
import itertools
import random
import unittest

from helpers import ODD_VALUES, Case, as_lists
from pagesonce.checking import book_holds
from pagesonce.deciding import decide
from pagesonce.plans import Plan, Printer
from reference import START, Job, closed, has_round, holds, is_kind, kinds_behind, order, sample
from samples import (COUNT_LINES, FAR_LINES, KEPT, NOTE_BLINDLY_LINES, NOTE_LINES, PRINTERS, SIXTEEN_LINES,
                     random_cases)

COUNTER = Printer(True, False, True)
TAKER = Printer(True, True, True)
KEEPER = Printer(False, True, True)
BLIND = Printer(False, False, True)
PROMISES = ("once", "least")
PLAN = Plan(COUNT_LINES)
# An ended house: no choice leads on from such a kind, so each one may stand in a book.
ENDED = (None, (0, 0), False, (0, 0), None, (0, 0), 0, 0)


def book_of(printer, plan, promise="once"):
    word, book = decide(printer, plan, promise)
    assert word == "book", plan.lines
    return book


def with_kinds(book, kinds):
    """The book with more kinds, in their places."""
    found = list(book)
    for kind in kinds:
        if kind not in found:
            bisect.insort(found, kind, key=order)
    return tuple(found)


def changed(kind, place, part):
    return kind[:place] + (part,) + kind[place + 1:]


class Arguments(Case):
    def test_wrong_promises(self):
        for wrong in ODD_VALUES:
            self.assertBadValue(3, book_holds, COUNTER, PLAN, wrong, ())

    def test_first_wrong_argument_is_told(self):
        self.assertBadValue(1, book_holds, None, None, None, None)
        self.assertBadValue(2, book_holds, COUNTER, None, None, None)
        self.assertBadValue(2, book_holds, BLIND, PLAN, None, None)
        self.assertBadValue(3, book_holds, COUNTER, PLAN, None, None)

    def test_names_of_arguments(self):
        book = book_of(COUNTER, PLAN)
        self.assertIs(book_holds(book=book, promise="once", plan=PLAN, printer=COUNTER), True)

    def test_argument_is_not_changed(self):
        book = as_lists(book_of(COUNTER, PLAN))
        self.assertIs(book_holds(COUNTER, PLAN, "once", book), True)
        self.assertEqual(book, as_lists(book_of(COUNTER, PLAN)))
        # A later change is seen by the next call alone.
        book[0][2] = None
        self.assertIs(book_holds(COUNTER, PLAN, "once", book), False)

    def test_values_that_are_no_book(self):
        deep = ()
        for _ in range(39):
            deep = (deep,)
        book = book_of(COUNTER, PLAN)
        for value in ODD_VALUES + (0, 1, ((),), deep, [None] * 20000, "a" * 60000, ("book", book), (book,), (0, ()),
                                   book[0], (0, 0, 0, 0, 1), [[]] * 8, [ENDED], book + ((),), book + (None,),
                                   (None,) + book, decide(COUNTER, Plan((("end",),)), "once")):
            self.assertIs(book_holds(COUNTER, PLAN, "once", value), False)


class DecidedBooks(Case):
    def test_they_hold(self):
        for printer, lines, promise in KEPT:
            book = book_of(printer, Plan(lines), promise)
            self.assertIs(book_holds(printer, Plan(lines), promise, book), True)

    def test_those_for_once_hold_for_least(self):
        for printer, lines, promise in KEPT:
            if promise == "once":
                book = book_of(printer, Plan(lines), "once")
                self.assertIs(book_holds(printer, Plan(lines), "least", book), True)

    def test_not_those_for_least_alone(self):
        book = book_of(BLIND, Plan(NOTE_LINES), "least")
        self.assertIs(book_holds(BLIND, Plan(NOTE_LINES), "least", book), True)
        self.assertIs(book_holds(BLIND, Plan(NOTE_LINES), "once", book), False)

    def test_books_of_plans_by_chance(self):
        kept = 0
        for printer, plan, promise in random_cases(61, 1000):
            word, book = decide(printer, plan, promise)
            if word == "book":
                kept += 1
                self.assertIs(book_holds(printer, plan, promise, book), True)
                self.assertIs(book_holds(printer, plan, "least", book), True)
        self.assertGreater(kept, 30)

    def test_books_of_other_printers_and_plans(self):
        book = book_of(COUNTER, PLAN)
        notes = book_of(KEEPER, Plan(NOTE_LINES))
        self.assertIs(book_holds(KEEPER, Plan(NOTE_LINES), "once", book), False)
        self.assertIs(book_holds(COUNTER, PLAN, "once", notes), False)
        self.assertIs(book_holds(Printer(True, False, False), PLAN, "once", book), False)
        self.assertIs(book_holds(BLIND, Plan(NOTE_LINES), "once", notes), False)
        self.assertIs(book_holds(Printer(True, True, True), Plan(NOTE_LINES), "once", notes), True)

    def test_lists_at_every_level(self):
        for printer, lines, promise in KEPT[::4]:
            book = book_of(printer, Plan(lines), promise)
            for value in (list(book), as_lists(book), tuple(as_lists(book)), [list(kind) for kind in book]):
                self.assertIs(book_holds(printer, Plan(lines), promise, value), True)

    def test_one_kind_left_out(self):
        for printer, plan, step in ((COUNTER, PLAN, 1), (KEEPER, Plan(NOTE_LINES), 7)):
            book = book_of(printer, plan)
            for at in range(0, len(book), step):
                self.assertIs(book_holds(printer, plan, "once", book[:at] + book[at + 1:]), False, book[at])

    def test_first_kinds_left_out(self):
        """They are asked for even where no kind leads to them."""
        for left in range(6):
            # All kinds that come about, but those of the jobs of so many pages.
            firsts = [(0, (0, 0), False, (0, 0), None, (0, 0), 0, other) for other in range(6) if other != left]
            kinds = closed(COUNTER, PLAN, "once", firsts)
            self.assertIs(book_holds(COUNTER, PLAN, "once", tuple(sorted(kinds, key=order))), False)
        # No kind of an ended house leads anywhere; nor does an empty book.
        self.assertIs(book_holds(COUNTER, PLAN, "once", (ENDED,)), False)

    def test_no_kind(self):
        self.assertIs(book_holds(COUNTER, PLAN, "once", ()), False)
        self.assertIs(book_holds(COUNTER, PLAN, "once", []), False)

    def test_one_kind_twice(self):
        book = book_of(COUNTER, PLAN)
        for at in range(0, len(book), 5):
            self.assertIs(book_holds(COUNTER, PLAN, "once", book[:at] + book[at:at + 1] + book[at:]), False)
            self.assertIs(book_holds(COUNTER, PLAN, "once", book + book[at:at + 1]), False)
        # As a list it is the same kind.
        self.assertIs(book_holds(COUNTER, PLAN, "once", (list(book[0]),) + book), False)

    def test_one_kind_in_another_place(self):
        book = book_of(COUNTER, PLAN)
        for at in range(0, len(book) - 1, 3):
            swapped = book[:at] + (book[at + 1], book[at]) + book[at + 2:]
            self.assertIs(book_holds(COUNTER, PLAN, "once", swapped), False)
        self.assertIs(book_holds(COUNTER, PLAN, "once", book[1:] + book[:1]), False)
        self.assertIs(book_holds(COUNTER, PLAN, "once", book[-1:] + book[:-1]), False)
        self.assertIs(book_holds(COUNTER, PLAN, "once", tuple(reversed(book))), False)

    def test_one_part_changed(self):
        """In its place, and put where it belongs; the reference tells the same."""
        chance = random.Random(62)
        parts = (None, 0, 1, -1, 5, 8, 9, True, False, "told", (), (0, 0), (0, 1), (0, -1), (0, 3), (0, 4), (0, -4),
                 (1, 0), (1, 3), (1, 4), ("told", True), ("told", False), ("told", 1), (0, True), (False, 0), 10 ** 30)
        for printer, lines, promise in KEPT[::7]:
            plan = Plan(lines)
            book = book_of(printer, plan, promise)
            for _ in range(60):
                at, place, part = chance.randrange(len(book)), chance.randrange(8), chance.choice(parts)
                kind = changed(book[at], place, part)
                if repr(kind) == repr(book[at]):
                    continue
                value = book[:at] + (kind,) + book[at + 1:]
                self.assertIs(book_holds(printer, plan, promise, value), False)
                if is_kind(plan, kind):
                    value = with_kinds(book[:at] + book[at + 1:], [kind])
                    self.assertIs(book_holds(printer, plan, promise, value), False)
                    value = with_kinds(book, [kind])
                    self.assertIs(book_holds(printer, plan, promise, value), holds(printer, plan, promise, value))


class FormOfKinds(Case):
    """Each kind of an ended house may be added to a book, and nothing else may."""

    def added(self, kind, printer=COUNTER, plan=PLAN):
        """Whether the book holds with such a value added, wherever it is put."""
        book = book_of(printer, plan)
        # Kinds of an ended house stand ahead of all others.
        few = sum(other[0] is None for other in book)
        return any(book_holds(printer, plan, "once", book[:at] + (kind,) + book[at:]) for at in range(few + 1))

    def check(self, kinds, printer=COUNTER, plan=PLAN):
        """Asks of all that are kinds at once, and of each of the others; returns how many they are."""
        book = book_of(printer, plan)
        good = [kind for kind in kinds if is_kind(plan, kind)]
        self.assertIs(book_holds(printer, plan, "once", with_kinds(book, good)), True)
        wrong = [kind for kind in kinds if not is_kind(plan, kind)]
        for kind in wrong:
            self.assertIs(book_holds(printer, plan, "once", with_kinds(book, [kind])), False, kind)
        return len(good), len(wrong)

    def test_pairs(self):
        for small in range(9):
            near = Job.pair(0, small)
            kind = (None, near, False, near, None, near, small, 0)
            pairs = list(itertools.product((0, 1), range(-5, 6))) + [(1, small + 3), (1, small + 4), (2, 0), (-1, 0)]
            for place in (1, 3, 5):
                good, wrong = self.check({changed(kind, place, pair) for pair in pairs})
                # The numbers up to 3, and those from 4 on that are near: small + 3 is the last one.
                self.assertEqual(good, small + 4 if small <= 6 else 11)
                self.assertGreater(wrong, 10)

    def test_lying_without_a_count(self):
        plan = Plan(NOTE_LINES)
        for small in range(9):
            near = Job.pair(0, small)
            kind = (None, near, True, near, ("told", False), near, small, 0)
            kinds = [changed(kind, 5, pair) for pair in itertools.product((0, 1), range(-4, 5))]
            self.assertEqual(self.check(kinds, KEEPER, plan), (1, 17))
            # The others are free.
            self.assertEqual(self.check([changed(kind, place, (0, 1)) for place in (1, 3)], KEEPER, plan), (2, 0))

    def test_lying_with_an_idle_count(self):
        plan = Plan(NOTE_LINES + (("count",), ("end",)))
        book = book_of(TAKER, plan)
        self.assertNotIn(changed(ENDED, 5, (0, 2)), book)
        self.assertIs(book_holds(TAKER, plan, "once", with_kinds(book, [changed(ENDED, 5, (0, 2))])), True)

    def test_other_parts(self):
        wrong_parts = {
            0: (-1, 7, 16, True, False, "", "None", (), (0, 0), 10 ** 30),
            1: (None, 0, True, "", "00", (), (0,), (0, 0, 0), (0, None), (None, 0), (True, 0), (False, 0), (0, False),
                (0, "0"), ("0", 0), ((0, 0), 0), ("told", True), ("told", 0), (0, 10 ** 30), (10 ** 30, 0), [[0, 0]]),
            2: (0, 1, None, "True", (), (True,), 10 ** 30),
            4: (True, False, 0, 1, "told", (), ("told",), ("told", 0), ("told", 1), ("told", None), ("told", (0, 0)),
                (True, "told"), ("said", True), ("told", True, True), (("told", True),), (0, "told"), ("", True)),
            6: (-1, 9, True, False, None, "0", (0,), (), 10 ** 30, (0, 0)),
            7: (-1, 6, True, False, None, "0", (0,), (), 10 ** 30, (0, 0)),
        }
        wrong_parts[3] = wrong_parts[5] = wrong_parts[1]
        for place, parts in wrong_parts.items():
            for part in parts:
                kind = changed(ENDED, place, part)
                self.assertFalse(is_kind(PLAN, kind))
                self.assertIs(self.added(kind), False, kind)

    def test_numbers_of_lines(self):
        """All that comes behind a kind of the last line is there, but no line has these numbers."""
        plan = Plan(COUNT_LINES + (("go", 0),))
        base = (7, (0, 1), False, (0, 2), None, (0, 0), 0, 0)
        book = with_kinds(book_of(COUNTER, plan), closed(COUNTER, plan, "once", [base]))
        self.assertIs(book_holds(COUNTER, plan, "once", book), True)
        few = sum(kind[0] is None for kind in book)
        for line in (-1, -8, 8, 16):
            kind = changed(base, 0, line)
            for at in list(range(few + 1)) + [len(book)]:
                value = book[:at] + (kind,) + book[at:]
                self.assertIs(book_holds(COUNTER, plan, "once", value), False)

    def test_last_below_none(self):
        kind = (None, (0, 1), False, (0, 1), None, (0, 1), -1, 0)
        self.assertIs(self.added(kind), False)
        self.assertIs(self.added((None, (0, 0), False, (0, 0), None, (0, 0), 9, 0)), False)
        self.assertIs(self.added((None, (0, -1), False, (0, -1), None, (0, -1), 1, 0)), True)

    def test_true_and_false_in_place_of_numbers(self):
        """In the place of the very kind that they are equal to."""
        book = book_of(COUNTER, PLAN)
        for place, number, other in ((0, 0, False), (0, 1, True), (6, 0, False), (6, 1, True), (7, 0, False),
                                     (7, 1, True), (2, True, 1), (2, False, 0)):
            at = [kind[place] for kind in book].index(number)
            kind = changed(book[at], place, other)
            self.assertEqual(kind, book[at])
            self.assertIs(book_holds(COUNTER, PLAN, "once", book[:at] + (kind,) + book[at + 1:]), False)
        for place in (1, 3, 4, 5):
            at = [kind[place] for kind in book].index((0, 1) if place == 4 else (0, 0))
            far, number = book[at][place]
            for pair in ((False, number), (far, bool(number))):
                value = book[:at] + (changed(book[at], place, pair),) + book[at + 1:]
                self.assertEqual(value, book)
                self.assertIs(book_holds(COUNTER, PLAN, "once", value), False)
        at = [kind[4] for kind in book].index(("told", True))
        value = book[:at] + (changed(book[at], 4, ("told", 1)),) + book[at + 1:]
        self.assertEqual(value, book)
        self.assertIs(book_holds(COUNTER, PLAN, "once", value), False)

    def test_other_shapes(self):
        for kind in (None, 0, True, "", "kind", (), [], ENDED[:7], ENDED + (0,), (ENDED,), [ENDED], 10 ** 30,
                     "12345678"):
            self.assertIs(self.added(kind), False)

    def test_ended_with_pages_left(self):
        self.assertEqual(self.check([changed(ENDED, 7, left) for left in range(6)]), (1, 5))

    def test_ended_with_a_sheet_on_its_way(self):
        ways = (None, ("told", True), ("told", False), (0, 0), (0, 1), (0, 3))
        self.assertEqual(self.check([changed(ENDED, 4, way) for way in ways]), (3, 3))
        far = (None, (1, 0), False, (1, 0), None, (1, 0), 8, 0)
        self.assertEqual(self.check([changed(far, 4, way) for way in (None, (1, 0), (0, 1))]), (1, 2))
        # Even where the printer would not take the sheet, and all that comes behind it is there.
        kinds = [changed(far, 4, ("told", False)), changed(far, 4, ("told", True))]
        book = with_kinds(book_of(TAKER, PLAN), kinds)
        self.assertIs(book_holds(TAKER, PLAN, "once", book), True)
        for way in ((0, 0), (1, 1)):
            sheet = changed(far, 4, way)
            self.assertEqual(sorted(kinds_behind(TAKER, PLAN, "once", sheet)[0]), kinds)
            self.assertIs(book_holds(TAKER, PLAN, "once", with_kinds(book, [sheet])), False)

    def test_lists_in_place_of_tuples(self):
        kind = changed(changed(ENDED, 3, (0, 2)), 4, ("told", False))
        book = book_of(COUNTER, PLAN)
        self.assertNotIn(kind, book)
        value = with_kinds(book, [kind])
        at = value.index(kind)
        for other in (list(kind), as_lists(kind), tuple(as_lists(kind))):
            self.assertIs(book_holds(COUNTER, PLAN, "once", value[:at] + (other,) + value[at + 1:]), True)


class MoreKinds(Case):
    """Kinds that do not come about may stand in a book, if what is behind them does."""

    def test_with_all_that_comes_behind(self):
        chance = random.Random(63)
        told = {True: 0, False: 0}
        for printer, lines, promise in KEPT[::4]:
            plan = Plan(lines)
            book = book_of(printer, plan, promise)
            for _ in range(16):
                kind = self.kind_by_chance(chance, plan)
                kinds = closed(printer, plan, promise, [kind])
                # Where the promise may be broken behind it, it has no place in any book.
                wanted = kinds is not None and not has_round(printer, plan, promise, kinds)
                told[wanted] += 1
                value = with_kinds(book, kinds or [kind])
                self.assertIs(book_holds(printer, plan, promise, value), wanted, (lines, kind))
                self.assertIs(holds(printer, plan, promise, value), wanted)
                if wanted:
                    if promise == "once":
                        self.assertIs(book_holds(printer, plan, "least", value), True)
                    alone = with_kinds(book, [kind])
                    self.assertIs(book_holds(printer, plan, promise, alone), len(alone) == len(value))
        self.assertGreater(told[True], 25)
        self.assertGreater(told[False], 25)

    def kind_by_chance(self, chance, plan):
        while True:
            small = chance.randrange(9)
            near = (0, chance.randrange(-1, 2))
            lying = near if ("count",) in plan.lines else Job.pair(0, small)
            way = chance.choice((None, ("told", True), ("told", False), near, (0, 1)))
            kind = (chance.choice([None] + list(range(len(plan)))), chance.choice((near, Job.pair(0, small))),
                    chance.random() < 0.5, chance.choice((near, Job.pair(0, small), (1, 2))), way, lying, small,
                    chance.randrange(6))
            if is_kind(plan, kind):
                return kind

    def test_both_numbers_left_behind_a_page(self):
        """Behind a page that lies where 5 are left, 5 and 4 are asked for."""
        plan = Plan(COUNT_LINES + (("wait",), ("go", 0)))
        book = book_of(COUNTER, plan)
        head = (7, (0, 1), False, (0, -2), (0, 1), (0, 0), 2, 5)
        kinds = closed(COUNTER, plan, "once", [head])
        whole = with_kinds(book, kinds)
        self.assertIs(book_holds(COUNTER, plan, "once", whole), True)
        behind, _ = kinds_behind(COUNTER, plan, "once", head)
        for left in (4, 5):
            # Line 7 is idle, so these are come to by no other way.
            kind = (7, (0, 0), False, (0, -3), ("told", True), (0, 0), 3, left)
            self.assertIn(kind, behind)
            value = tuple(other for other in whole if other != kind)
            self.assertIs(book_holds(COUNTER, plan, "once", value), False)

    def test_numbers_stay_or_move_on_where_small_is_eight(self):
        """Behind a page, a number up to 3 stays as it is, and a near one falls back by 1."""
        plan = Plan(COUNT_LINES + (("recall",), ("wait",), ("go", 0)))
        book = book_of(COUNTER, plan)
        for at, behind in (((1, 3), (1, 3)), ((1, 0), (1, 0)), ((0, 3), (0, 2)), ((0, -2), (0, -3))):
            head = (8, at, False, (1, 0), (0, 1), (0, 0), 8, 3)
            kind = (8, behind, False, (1, 0), ("told", True), (0, 0), 8, 2)
            kinds = closed(COUNTER, plan, "once", [head])
            self.assertIn(kind, kinds)
            whole = with_kinds(book, kinds)
            self.assertIs(book_holds(COUNTER, plan, "once", whole), True)
            rest = tuple(other for other in whole if other != kind)
            self.assertIs(book_holds(COUNTER, plan, "once", rest), False)
        # 3 away on the low side, it is too far behind a page.
        head = (8, (0, -3), False, (1, 0), (0, 1), (0, 0), 8, 3)
        self.assertIsNone(closed(COUNTER, plan, "once", [head]))
        behind, _ = kinds_behind(COUNTER, plan, "once", head)
        self.assertIs(book_holds(COUNTER, plan, "once", with_kinds(book, [head] + behind)), False)

    def test_kinds_that_break_at_once(self):
        book = book_of(COUNTER, PLAN)
        for kind in (
            # The house ends with pages left; sheet 2 lies first; sheet 0 lies; page 1 lies again.
            (6, (0, 0), False, (0, 0), None, (0, 0), 0, 1),
            (0, (0, 0), False, (0, 0), (0, 2), (0, 0), 0, 5),
            (0, (0, 0), False, (0, 0), (0, 0), (0, 0), 0, 5),
            (0, (0, 0), False, (0, 0), (0, 0), (0, 0), 1, 5),
            # A sheet above the pages; at 4 more than last.
            (0, (0, 0), False, (0, 0), (0, 1), (0, 0), 3, 0),
            (2, (0, 3), False, (0, 0), None, (0, 0), 1, 5),
        ):
            self.assertTrue(is_kind(PLAN, kind))
            self.assertIsNone(closed(COUNTER, PLAN, "once", [kind]))
            behind, _ = kinds_behind(COUNTER, PLAN, "once", kind)
            self.assertIs(book_holds(COUNTER, PLAN, "once", with_kinds(book, [kind])), False)
            self.assertIs(book_holds(COUNTER, PLAN, "once", with_kinds(book, [kind] + behind)), False)

    def test_once_more_than_three(self):
        """at is 3, and becomes 4: this is near to last if last is from 1 to 7."""
        plan = Plan(COUNT_LINES + (("add",), ("go", 0)))
        book = book_of(COUNTER, plan)
        for small in range(9):
            head = (7, Job.pair(3, small), False, Job.pair(0, small), None, (0, 0), small, 5)
            kinds = closed(COUNTER, plan, "once", [head])
            self.assertIs(kinds is not None, 1 <= small <= 7)
            behind, _ = kinds_behind(COUNTER, plan, "once", head)
            value = with_kinds(book, kinds or [head] + behind)
            self.assertIs(book_holds(COUNTER, plan, "once", value), 1 <= small <= 7)


class Rounds(Case):
    """Closed books with rounds in which last never becomes greater do not hold."""

    def book(self, printer, lines, head):
        """The book of a plan, and all kinds behind one more."""
        plan = Plan(lines)
        kinds = closed(printer, plan, "once", [head])
        self.assertIsNotNone(kinds)
        self.assertIn(head, kinds)
        return with_kinds(book_of(printer, plan), kinds)

    def check(self, printer, lines, head, wanted):
        value = self.book(printer, lines, head)
        self.assertIs(holds(printer, Plan(lines), "once", value), wanted)
        for promise in PROMISES:
            self.assertIs(book_holds(printer, Plan(lines), promise, value), wanted)
            self.assertIs(book_holds(printer, Plan(lines), promise, as_lists(value)), wanted)

    def test_a_house_that_goes_in_a_round(self):
        head = (7, (0, 0), False, (0, 0), None, (0, 0), 0, 3)
        self.check(COUNTER, COUNT_LINES + (("go", 7),), head, False)
        self.check(COUNTER, COUNT_LINES + (("go", 0),), head, True)
        self.check(COUNTER, COUNT_LINES + (("wait",), ("go", 7)), head, False)
        self.check(COUNTER, COUNT_LINES + (("wait",), ("go", 0)), head, True)
        self.check(COUNTER, COUNT_LINES + (("if", "ok", 9), ("go", 7), ("go", 0)), head, False)
        self.check(COUNTER, COUNT_LINES + (("if", "ok", 9), ("go", 7), ("go", 0)), changed(head, 2, True), True)

    def test_a_busy_house(self):
        # The sheet on its way is page 1; the house does not wait for it.
        head = (7, (0, 1), False, (0, 0), (0, 1), (0, 0), 0, 3)
        self.check(COUNTER, COUNT_LINES + (("go", 7),), head, False)
        self.check(COUNTER, COUNT_LINES + (("wait",), ("go", 0)), head, True)

    def test_a_sheet_that_is_not_taken_in_the_round(self):
        # The printer remembers, and takes sheet 0 never: the round has choice 1 in it.
        lines = COUNT_LINES + (("send",), ("wait",), ("go", 7), ("go", 0))
        head = (7, (0, 0), False, (0, 0), None, (0, 0), 0, 3)
        self.check(TAKER, lines, head, False)
        self.check(TAKER, COUNT_LINES + (("send",), ("wait",), ("go", 0)), head, True)
        # Without the wait, the house cannot go on at the send.
        self.check(TAKER, COUNT_LINES + (("send",), ("go", 7)), head, False)

    def test_rounds_of_kinds_in_which_last_rises_are_none(self):
        # From eight pages on the kinds come again, page by page.
        book = book_of(COUNTER, PLAN)
        again = [kind for kind in book if kind[6:] == (8, 5) and kind[0] == 0]
        self.assertTrue(again)
        self.assertIs(book_holds(COUNTER, PLAN, "once", book), True)

    def test_rounds_with_a_jam_or_a_cut_are_none(self):
        # Jams and cuts lead from each kind back to the first line.
        book = book_of(KEEPER, Plan(NOTE_LINES))
        self.assertIs(book_holds(KEEPER, Plan(NOTE_LINES), "once", book), True)

    def test_a_plan_with_a_round(self):
        """All kinds that come about, of plans whose only fault is that they never end."""
        for printer, lines in ((COUNTER, COUNT_LINES[:6] + (("go", 6),)),
                               (KEEPER, NOTE_LINES[:9] + (("go", 9),)),
                               (KEEPER, NOTE_LINES[:9] + (("wait",), ("go", 9)))):
            plan = Plan(lines)
            firsts = [Job(printer, plan, "once", pages).kind(START) for pages in range(6)]
            kinds = closed(printer, plan, "once", firsts)
            self.assertIsNotNone(kinds)
            value = tuple(sorted(kinds, key=order))
            self.assertFalse(holds(printer, plan, "once", value))
            self.assertIs(book_holds(printer, plan, "once", value), False)
            # The same kinds for a plan that ends.
            good = Plan(lines[:-1] + (("end",),))
            self.assertIs(book_holds(printer, good, "once", book_of(printer, good)), True)


class PlansThatDoNotKeepIt(Case):
    def test_no_book_holds(self):
        """Neither those of other plans nor all kinds ahead of a break."""
        books = [book_of(COUNTER, PLAN), book_of(KEEPER, Plan(NOTE_LINES)), ()]
        cases = [(printer, Plan(lines), promise) for printer in PRINTERS for promise in PROMISES
                 for lines in (NOTE_BLINDLY_LINES, FAR_LINES)]
        for printer, plan, promise in cases + random_cases(64, 120):
            if decide(printer, plan, promise)[0] == "course":
                kinds = set()
                for pages in range(7):
                    job = Job(printer, plan, promise, pages)
                    kinds.update(job.kind(now) for now in job.moments())
                for value in books + [tuple(sorted(kinds, key=order))]:
                    self.assertIs(book_holds(printer, plan, promise, value), False)


class WhatBooksProve(Case):
    def test_least_book(self):
        """Each book that holds has the least one within it (point 32)."""
        for printer, lines, promise in KEPT[::6]:
            plan = Plan(lines)
            least = book_of(printer, plan, promise)
            for at in range(0, len(least), 40):
                self.assertIs(book_holds(printer, plan, promise, least[:at] + least[at + 1:]), False)
            more = with_kinds(least, [changed(least[0], 2, not least[0][2])])
            self.assertEqual(least[0][0], None)
            self.assertIs(book_holds(printer, plan, promise, more), True)

    def test_choices_in_one_stretch(self):
        """Point 2: not more than N times (pages + 1) choices 0 and 1 in one stretch."""
        for printer, lines, promise in KEPT[::3]:
            many = len(book_of(printer, Plan(lines), promise))
            for pages in (0, 1, 3):
                job = Job(printer, Plan(lines), promise, pages)
                longest = 0
                known = {}
                for now in job.moments():
                    longest = max(longest, self.stretch(job, now, known))
                self.assertGreater(longest, 2)
                self.assertLessEqual(longest, many * (pages + 1))

    def stretch(self, job, now, known):
        """How many choices 0 and 1 may come from a moment on; fails where they come for ever."""
        path = [now]
        while path:
            now = path[-1]
            thens = [then for choice, then, _ in job.moves(now) if choice in (0, 1)]
            new = [then for then in thens if then not in known]
            if now in known or not new:
                known[now] = max([known[then] + 1 for then in thens], default=0)
                path.pop()
            else:
                self.assertNotIn(new[0], path)
                path.append(new[0])
        return known[now]

    def test_samples_have_their_kinds(self):
        """Of the reference: the moments that it takes for a kind have it."""
        for printer, lines, promise in KEPT[::9]:
            plan = Plan(lines)
            for kind in book_of(printer, plan, promise):
                self.assertTrue(is_kind(plan, kind))
                now, pages = sample(kind, 5, 1)
                self.assertEqual(Job(printer, plan, promise, pages).kind(now), kind)

    def test_many_kinds(self):
        """A book with some thousand kinds more than the least one."""
        plan = Plan(SIXTEEN_LINES[:15] + (("end",),))
        book = book_of(KEEPER, plan)
        more = []
        for small in range(9):
            for one, other in itertools.product(range(small + 4), repeat=2):
                if all(number <= 3 or abs(number - small) <= 3 for number in (one, other)):
                    for way in (None, ("told", False), ("told", True)):
                        for ok in (False, True):
                            more.append((None, Job.pair(one, small), ok, Job.pair(other, small), way,
                                         Job.pair(0, small), small, 0))
        value = tuple(sorted(set(book).union(more), key=order))
        self.assertGreater(len(value), 5000)
        self.assertIs(book_holds(KEEPER, plan, "once", value), True)
        self.assertIs(book_holds(KEEPER, plan, "once", value[:3000] + value[2999:]), False)


if __name__ == "__main__":
    unittest.main()
