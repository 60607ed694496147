"""Points 11 and 39: printers and plans as texts."""

import itertools
import random
import unittest

from helpers import Case, as_lists
from pagesonce.plans import Plan, Printer
from pagesonce.texts import parse, printed
from samples import COUNT_LINES, NOTE_LINES, PRINTERS, SIXTEEN_LINES, random_cases

ALL_LINES = (("recall",), ("note",), ("count",), ("add",), ("send",), ("wait",), ("end",), ("go", 0),
             ("if", "done", 9), ("if", "ok", 11), ("go", 10), ("end",))
ALL_TEXT = ("plan\nrecall\nnote\ncount\nadd\nsend\nwait\nend\ngo 0\nif done 9\nif ok 11\ngo 10\nend\n")
PRINTER_TEXT = "printer counts forgets tells\n"
# Rows that are no line of a plan and no printer.
NO_ROWS = ("", " ", "  ", "plan", "plan ", "Plan", "printer", "stop", "End", "END", "end ", " end", "end 0", "endend",
           "end.", "add add", "recall note", "go", "go ", "go  0", " go 0", "go 0 ", "go  ", "go 0 0", "go0", "go 00",
           "go 01", "go 007", "go 0000", "go 00000", "go 10000", "go 99999", "go -1", "go -0", "go +1", "go 1.0",
           "go 1e1", "go 0x1", "go 1_0", "go x", "go end", "Go 0", "GO 0", "go,0", "go\t0", "if", "if ", "if done",
           "if ok", "if done ", "if  done 0", "if done  0", "if done 0 ", " if done 0", "if done 0 0", "if done 00",
           "if ok 01", "if done 10000", "if done x", "if done -1", "if not 0", "if Done 0", "if 0 done", "if done ok",
           "done 0", "ok 0", "if 0", "if ok ok 0", "if done ok 0", "('end',)", "end,", "#end", "go done 0", "wait ok",
           "a" * 60000, "go " + "1" * 50000, " " * 60000)


class Printing(Case):
    def test_printers(self):
        for counts, remembers, tells in itertools.product((False, True), repeat=3):
            words = ("counts" if counts else "blind", "remembers" if remembers else "forgets",
                     "tells" if tells else "silent")
            wanted = "printer {} {} {}\n".format(*words)
            self.assertSame(printed(Printer(counts, remembers, tells)), wanted)
            self.assertTrue(parse(wanted) == Printer(counts, remembers, tells))
        self.assertSame(printed(Printer(True, False, True)), PRINTER_TEXT)
        self.assertSame(printed(Printer(False, True, False)), "printer blind remembers silent\n")

    def test_plans(self):
        self.assertSame(printed(Plan(ALL_LINES)), ALL_TEXT)
        self.assertSame(printed(Plan(as_lists(ALL_LINES))), ALL_TEXT)
        self.assertSame(printed(Plan((("end",),))), "plan\nend\n")
        self.assertSame(printed(Plan(COUNT_LINES)), "plan\ncount\nif done 6\nadd\nsend\nwait\ngo 0\nend\n")

    def test_name_of_argument(self):
        self.assertSame(printed(value=Plan((("go", 0),))), "plan\ngo 0\n")

    def test_wrong_values(self):
        for wrong in (None, True, False, 0, 1, 10 ** 30, "", "printer", PRINTER_TEXT, ALL_TEXT, (), [], ALL_LINES,
                      as_lists(ALL_LINES), (True, False, True), [Plan((("end",),)).lines], ("end",)):
            self.assertBadValue(1, printed, wrong)


class Parsing(Case):
    def test_plans(self):
        for lines in (ALL_LINES, COUNT_LINES, NOTE_LINES, SIXTEEN_LINES, (("end",),), (("go", 0),)):
            plan = parse(printed(Plan(lines)))
            self.assertIs(type(plan), Plan)
            self.assertSame(plan.lines, lines)

    def test_printers(self):
        for printer in PRINTERS:
            found = parse(printed(printer))
            self.assertIs(type(found), Printer)
            self.assertSame((found.counts, found.remembers, found.tells),
                            (printer.counts, printer.remembers, printer.tells))

    def test_name_of_argument(self):
        self.assertEqual(parse(text="plan\nend\n"), Plan((("end",),)))

    def test_there_and_back(self):
        texts = set()
        for printer, plan, _ in random_cases(91, 300):
            for value in (printer, plan):
                text = printed(value)
                self.assertTrue(parse(text) == value)
                self.assertSame(printed(parse(text)), text)
                texts.add(text)
        self.assertGreater(len(texts), 200)

    def test_no_strings(self):
        for wrong in (None, True, 0, 10 ** 30, (), [], ["plan\nend\n"], ("plan", "end"), list("plan\nend\n")):
            self.assertBadValue(1, parse, wrong)


class WrongTexts(Case):
    def wrong(self, text, at):
        self.assertBadSyntax(at, parse, text)

    def test_no_line(self):
        self.wrong("", 0)
        for text in ("plan", "end", "printer", PRINTER_TEXT[:-1], "p", " ", "x" * 60000):
            self.wrong(text, 0)

    def test_first_line(self):
        for row in NO_ROWS + ("end", "go 0", "if ok 0", "wait", "plan end", "plan  ", " plan", "PLAN", "plans"):
            if row != "plan":
                for more in ("", "end\n", "end", "end\nend\n", "nothing\n", PRINTER_TEXT, "\n"):
                    self.wrong(row + "\n" + more, 0)

    def test_words_of_a_printer(self):
        good = ("printer", "counts", "forgets", "tells")
        others = ("", "printer", "counts", "blind", "remembers", "forgets", "tells", "silent", "Counts", "True", "0",
                  "tell", "tellss", "plan")
        for place, word in itertools.product(range(4), others):
            words = good[:place] + (word,) + good[place + 1:]
            text = " ".join(words) + "\n"
            if word in (("printer",), ("counts", "blind"), ("remembers", "forgets"), ("tells", "silent"))[place]:
                self.assertSame(printed(parse(text)), text)
            else:
                self.wrong(text, 0)
        for words in itertools.permutations(good):
            if words != good:
                self.wrong(" ".join(words) + "\n", 0)
        for text in ("printer counts forgets\n", "printer\n", "printer counts forgets tells tells\n",
                     "printer  counts forgets tells\n", "printer counts  forgets tells\n",
                     "printer counts forgets tells \n", " printer counts forgets tells\n",
                     "printer counts forgets\ttells\n", "printer,counts,forgets,tells\n",
                     "printer counts forgets  tells\n", "PRINTER COUNTS FORGETS TELLS\n",
                     "counts forgets tells\n", "printer forgets counts tells\n"):
            self.wrong(text, 0)

    def test_lines_behind_a_printer(self):
        for more in ("\n", "\n\n", " ", "x", "x\n", "end", "end\n", "plan\nend\n", PRINTER_TEXT, PRINTER_TEXT[:-1],
                     "x\ny\nz", "\nx"):
            self.wrong(PRINTER_TEXT + more, 1)

    def test_each_line_of_a_plan(self):
        rows = printed(Plan(SIXTEEN_LINES)).split("\n")[:-1]
        for at in range(1, len(rows)):
            for row in NO_ROWS:
                text = "\n".join(rows[:at] + [row] + rows[at + 1:]) + "\n"
                self.wrong(text, at)

    def test_first_wrong_line_is_told(self):
        self.wrong("plan\nend\nstop\nend\nstop\n", 2)
        self.wrong("plan\nstop\nstop\n", 1)
        self.wrong("plan\nend\nstop\nend", 2)
        self.wrong("plain\nstop\n", 0)
        self.wrong("plan\n\n\n", 1)
        self.wrong("plan\nend\n\n", 2)
        self.wrong("plan\n\nend\n", 1)
        self.wrong("\nplan\nend\n", 0)
        self.wrong("plan\nend\nplan\nend\n", 2)
        self.wrong("plan\nend\n" + PRINTER_TEXT, 2)

    def test_no_line_of_its_own(self):
        self.wrong("plan\n", 1)

    def test_no_line_feed_at_the_end(self):
        for many in range(1, 20):
            self.wrong("plan\n" + "end\n" * many + "end", many + 1)
            self.wrong("plan\n" + "end\n" * many + "stop", many + 1)
            self.wrong("plan\n" + "end\n" * many + " ", many + 1)
        self.wrong("plan\nend", 1)
        self.wrong("plan\n ", 1)
        self.wrong("plan\nstop", 1)

    def test_cut_off_anywhere(self):
        for value in (Plan(ALL_LINES), Plan(SIXTEEN_LINES), PRINTERS[0], PRINTERS[7]):
            text = printed(value)
            rows = text.split("\n")
            for length in range(len(text)):
                part = text[:length]
                if part.endswith("\n") and len(part) > len("plan\n") and not is_whole(part):
                    continue
                if part.endswith("\n") and len(part) > len("plan\n"):
                    self.assertSame(printed(parse(part)), part)
                else:
                    self.wrong(part, part.count("\n"))
            self.assertEqual(rows[-1], "")

    def test_numbers_of_lines(self):
        for number in (0, 1, 9, 10, 15):
            text = "plan\ngo {0}\nif done {0}\nif ok {0}\n".format(number) + "end\n" * 13
            self.assertSame(printed(parse(text)), text)

    def test_plans_that_are_refused(self):
        """The text says them well; the errors are those of Plan."""
        self.assertBadLine(0, parse, "plan\nwait\n")
        self.assertBadLine(1, parse, "plan\nend\nif ok 0\n")
        self.assertBadLine(0, parse, "plan\ngo 1\n")
        self.assertBadLine(0, parse, "plan\ngo 9999\n")
        self.assertBadLine(1, parse, "plan\nend\nif done 3\nend\n")
        self.assertBadLine(2, parse, "plan\nend\nend\nif ok 1000\nwait\n")
        self.assertBadLine(15, parse, "plan\n" + "end\n" * 15 + "wait\n")
        self.assertEqual(len(parse("plan\n" + "end\n" * 16)), 16)
        self.assertBadValue(1, parse, "plan\n" + "end\n" * 17)
        self.assertBadValue(1, parse, "plan\n" + "go 9999\n" * 17)
        self.assertBadValue(1, parse, "plan\n" + "wait\n" * 11990)

    def test_wrong_lines_are_told_ahead_of_refused_plans(self):
        self.wrong("plan\ngo 9\nstop\n", 2)
        self.wrong("plan\nwait", 1)
        self.wrong("plan\ngo 9\n\n", 2)
        self.wrong("plan\n" + "end\n" * 17 + "stop\n", 18)
        self.wrong("plan\n" + "end\n" * 17 + "end", 18)

    def test_texts_by_chance(self):
        """Each text that is parsed is printed so; the others are wrong, at a line that they have."""
        chance = random.Random(92)
        parsed = 0
        signs = "plan\ngoif okde01 9"
        for _ in range(4000):
            text = list(chance.choice(("plan\nadd\ngo 0\n", "plan\nif ok 1\nend\n", PRINTER_TEXT)))
            for _ in range(chance.choice((0, 1, 1, 2))):
                at = chance.randrange(len(text))
                text[at:at + chance.randrange(2)] = chance.choice(signs) * chance.randrange(2)
            text = "".join(text)
            try:
                value = parse(text)
            except Exception as error:
                self.assertIn(type(error).__name__, ("BadSyntax", "BadLine", "BadValue"))
                self.assertTrue(0 <= error.at <= text.count("\n") + 1)
            else:
                parsed += 1
                self.assertSame(printed(value), text)
        self.assertGreater(parsed, 800)


def is_whole(text):
    """Whether a beginning of a plan's text is itself one of a plan, by its jumps and its last line."""
    rows = text.split("\n")[1:-1]
    jumps = [int(row.split(" ")[-1]) for row in rows if row[:2] in ("go", "if")]
    return rows[-1][:2] in ("go", "en") and all(jump < len(rows) for jump in jumps)


if __name__ == "__main__":
    unittest.main()
