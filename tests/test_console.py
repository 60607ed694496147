"""Points 11 and 40 to 44: the console and its log."""

import random
import unittest

from helpers import Case
from pagesonce.console import Console
from pagesonce.deciding import decide, idle_lines
from pagesonce.errors import BadSyntax
from pagesonce.plans import Plan, Printer
from pagesonce.running import costs, twins
from pagesonce.texts import printed
from samples import COUNT_LINES, IDLE_LINES, NOTE_BLINDLY_LINES, NOTE_LINES, SIXTEEN_LINES

COUNTER = Printer(True, False, True)
KEEPER = Printer(False, True, True)
BLIND = Printer(False, False, True)
TEXTS = {
    "counter": printed(COUNTER),
    "keeper": printed(KEEPER),
    "blind": printed(BLIND),
    "count": printed(Plan(COUNT_LINES)),
    "idle": printed(Plan(IDLE_LINES)),
    "note": printed(Plan(NOTE_LINES)),
    "blindly": printed(Plan(NOTE_BLINDLY_LINES)),
    "endless": "plan\ngo 0\n",
    "badsyntax": "plan\nstop\n",
    "badline": "plan\ngo 1\n",
    "badvalue": "plan\n" + "end\n" * 17,
}
# The letters of the alphabet, in names of the greatest length.
LONG_NAMES = ("abcdefghijkl", "mnopqrstuvwx", "yz")
ASKING = ("decide", "costs", "idle", "twins")


def lines_for(name, text):
    """The commands by which a console comes to keep a text."""
    return [f"line {name} {row}" for row in text.split("\n")[:-1]]


def filled(names=tuple(TEXTS)):
    console = Console()
    for name in names:
        for command in lines_for(name, TEXTS[name]):
            assert console.run(command) == "ok"
    return console


class Refused(Case):
    """Commands that have none of the forms."""

    wrong = (
        "", " ", "  ", "x", "help", "lines a b", "Line a b", "LINE a b", "shows a", "decided a b once",
        # line: a name and the blank behind it must be there.
        "line", "line ", "line a", "line  ", "line  a", "line  a b", " line a b", "line A b", "line a1 b", "line a_ b",
        "line a- b", "line abcdefghijklm b", "line 1 b", "line \t b", "linea b", "line,a b",
        # clear and show: one name.
        "clear", "clear ", "clear  a", "clear a ", " clear a", "clear a b", "clear A", "clear a1", "clear abcdefghijklm",
        "show", "show ", "show  a", "show a ", " show a", "show a b", "show A", "show 1", "show abcdefghijklm",
        # decide and idle: two names and a promise.
        "decide", "decide a", "decide a b", "decide a b ", "decide a b twice", "decide a b Once", "decide a b ones",
        "decide a b once ", "decide a b  once", "decide a  b once", "decide  a b once", " decide a b once",
        "decide a b once 1", "decide a b once least", "decide A b once", "decide a B once", "decide a b1 once",
        "decide abcdefghijklm b once", "decide a abcdefghijklm once", "decide a once", "decide once", "decide a b 1",
        "idle", "idle a", "idle a b", "idle a b never", "idle a b once ", "idle a b  least", "idle a  b least",
        "idle  a b least", "idle a b least 0", "idle A b least", "idle a b' least", "idle a b LEAST",
        # costs: two names, a promise and a number.
        "costs", "costs a b", "costs a b once", "costs a b once ", "costs a b once x", "costs a b once -1",
        "costs a b once 01", "costs a b once 00", "costs a b once 0000", "costs a b once 10000", "costs a b once 1 ",
        "costs a b once  1", "costs a b  once 1", "costs a b once 1 1", "costs a b 1 once", "costs a b 1",
        "costs a b twice 1", "costs A b once 1", "costs a B once 1", "costs a b once +1", "costs a b once 1.0",
        "costs a b once 1_0",
        # twins: two names and a number.
        "twins", "twins a", "twins a b", "twins a b ", "twins a b x", "twins a b -1", "twins a b 01", "twins a b 10000",
        "twins a b 1 ", "twins a b  1", "twins a  b 1", "twins a b once 1", "twins a b once", "twins A b 1",
        "twins a b 1 1", "twins a 1", "twins a b 00",
    )

    def test_none_of_the_forms(self):
        console = filled(("counter", "count"))
        before = console.log()
        for command in self.wrong:
            self.assertBadSyntax(0, console.run, command)
            self.assertBadSyntax(0, Console().run, command)
        # Neither the log nor a text has changed.
        self.assertEqual(console.log(), before)
        self.assertEqual(console.run("show a"), "error Unknown")
        self.assertEqual(console.run("show count"), TEXTS["count"])

    def test_name_of_argument(self):
        self.assertBadSyntax(0, lambda text: Console().run(command=text), "x")
        self.assertEqual(Console().run(command="line a b"), "ok")


class Texts(Case):
    def test_lines(self):
        console = Console()
        for command, answer in (
            ("show a", "error Unknown"),
            ("line a b", "ok"), ("show a", "b\n"),
            ("line a ", "ok"), ("show a", "b\n\n"),
            ("line a  ", "ok"), ("show a", "b\n\n \n"),
            ("line a  x  y ", "ok"), ("show a", "b\n\n \n x  y \n"),
            ("line b line a b", "ok"), ("show b", "line a b\n"), ("show a", "b\n\n \n x  y \n"),
        ):
            self.assertSame(console.run(command), answer)

    def test_signs_in_lines(self):
        signs = "".join(chr(sign) for sign in range(32, 127) if chr(sign) != chr(37))
        console = Console()
        console.run("line a " + signs)
        console.run("line a " + "x" * 50000)
        self.assertSame(console.run("show a"), signs + "\n" + "x" * 50000 + "\n")

    def test_an_empty_line_makes_a_name_known(self):
        console = Console()
        self.assertSame(console.run("line a "), "ok")
        self.assertSame(console.run("show a"), "\n")

    def test_clear(self):
        console = Console()
        self.assertSame(console.run("clear a"), "error Unknown")
        self.assertSame(console.run("show a"), "error Unknown")
        console.run("line a b")
        console.run("line b c")
        self.assertSame(console.run("clear a"), "ok")
        # The name stays known, with the empty text.
        self.assertSame(console.run("show a"), "")
        self.assertSame(console.run("clear a"), "ok")
        self.assertSame(console.run("show b"), "c\n")
        self.assertSame(console.run("line a d"), "ok")
        self.assertSame(console.run("show a"), "d\n")
        self.assertSame(console.run("clear c"), "error Unknown")

    def test_names(self):
        console = Console()
        for name in LONG_NAMES + ("a", "z", "once", "least", "line", "show", "plan"):
            self.assertSame(console.run(f"show {name}"), "error Unknown")
            self.assertSame(console.run(f"line {name} {name} it is"), "ok")
            self.assertSame(console.run(f"show {name}"), f"{name} it is\n")
        self.assertSame(console.run("show mnopqrstuvw"), "error Unknown")


class Answers(Case):
    def test_decide(self):
        console = filled()
        for command, answer in (
            ("decide counter count once", "book 806"), ("decide counter count least", "book 806"),
            ("decide keeper note once", "book 1379"), ("decide blind note least", "book 1379"),
        ):
            self.assertSame(console.run(command), answer)
        for printer, plan, promise in ((BLIND, NOTE_LINES, "once"), (BLIND, NOTE_BLINDLY_LINES, "once"),
                                       (BLIND, NOTE_BLINDLY_LINES, "least"), (KEEPER, NOTE_BLINDLY_LINES, "once")):
            names = [name for value in (printer, Plan(plan)) for name, text in TEXTS.items() if text == printed(value)]
            pages, course = decide(printer, Plan(plan), promise)[1]
            self.assertSame(console.run(" ".join(["decide"] + names + [promise])), f"course {pages} {len(course)}")
        pages, course = decide(BLIND, Plan((("go", 0),)), "once")[1]
        self.assertEqual(course, ())
        self.assertSame(console.run("decide blind endless once"), f"course {pages} 0")

    def test_costs(self):
        console = filled()
        for command, answer in (
            ("costs counter count once 0", "0,0,3"), ("costs counter count least 1", "0,1,10"),
            ("costs counter count once 300", "0,300,2103"), ("costs keeper note once 2", "2,2,21"),
            ("costs blind endless once 1", "none"), ("costs counter count once 301", "error BadValue"),
            ("costs counter count once 9999", "error BadValue"),
        ):
            self.assertSame(console.run(command), answer)

    def test_idle(self):
        console = filled()
        for command, answer in (
            ("idle counter count once", "none"), ("idle counter idle once", "6,7"), ("idle counter idle least", "6,7"),
            ("idle blind endless least", "none"),
        ):
            self.assertSame(console.run(command), answer)
        console.run("line one plan")
        console.run("line one end")
        console.run("line one end")
        self.assertSame(console.run("idle blind one once"), "1")

    def test_twins(self):
        console = filled()
        for command, answer in (
            ("twins blind note 1", "5"), ("twins blind note 300", "5"), ("twins blind endless 1", "none"),
            ("twins blind note 0", "error BadValue"), ("twins blind note 301", "error BadValue"),
            ("twins counter note 1", "error BadValue"), ("twins keeper note 1", "error BadValue"),
            ("twins blind count 1", "error BadValue"),
        ):
            self.assertSame(console.run(command), answer)

    def test_as_the_functions_tell(self):
        console = filled()
        printers = {"counter": COUNTER, "keeper": KEEPER, "blind": BLIND}
        plans = {"note": Plan(NOTE_LINES), "blindly": Plan(NOTE_BLINDLY_LINES), "endless": Plan((("go", 0),))}
        for one, printer in printers.items():
            for other, plan in plans.items():
                for promise in ("once", "least"):
                    word, found = decide(printer, plan, promise)
                    told = f"book {len(found)}" if word == "book" else f"course {found[0]} {len(found[1])}"
                    self.assertSame(console.run(f"decide {one} {other} {promise}"), told)
                    idle = idle_lines(printer, plan, promise)
                    told = ",".join(str(line) for line in idle) or "none"
                    self.assertSame(console.run(f"idle {one} {other} {promise}"), told)
                    for pages in (0, 1, 7, 300):
                        found = costs(printer, plan, promise, pages)
                        told = "none" if found is None else "{},{},{}".format(*found)
                        self.assertSame(console.run(f"costs {one} {other} {promise} {pages}"), told)
                if printer == BLIND:
                    found = twins(printer, plan, 3)
                    told = "none" if found is None else str(len(found[0]))
                    self.assertSame(console.run(f"twins {one} {other} 3"), told)

    def test_texts_are_parsed_as_they_are_then(self):
        console = filled(("counter", "count", "blind"))
        self.assertSame(console.run("decide counter count once"), "book 806")
        console.run("line count end")
        self.assertSame(console.run("decide counter count once"), "book 806")
        self.assertSame(console.run("idle counter count once"), "7")
        console.run("clear count")
        self.assertSame(console.run("decide counter count once"), "error BadSyntax")
        for command in lines_for("count", "plan\nend\n"):
            console.run(command)
        self.assertSame(console.run("costs blind count once 0"), "0,0,1")
        console.run("line blind ")
        self.assertSame(console.run("costs blind count once 0"), "error BadSyntax")


class Errors(Case):
    def commands(self, printer, plan):
        return [f"decide {printer} {plan} once", f"idle {printer} {plan} least", f"costs {printer} {plan} once 3",
                f"twins {printer} {plan} 3"]

    def told(self, printer, plan, answer):
        console = filled()
        for command in self.commands(printer, plan):
            self.assertSame(console.run(command), answer)

    def test_unknown_names(self):
        self.told("nobody", "note", "error Unknown")
        self.told("blind", "nothing", "error Unknown")
        self.told("nobody", "nothing", "error Unknown")
        # Ahead of all parsing.
        self.told("badsyntax", "nothing", "error Unknown")
        self.told("nobody", "badline", "error Unknown")
        # Once and least are names there.
        self.told("once", "least", "error Unknown")

    def test_errors_of_texts(self):
        self.told("blind", "badsyntax", "error BadSyntax")
        self.told("blind", "badline", "error BadLine")
        self.told("blind", "badvalue", "error BadValue")
        self.told("badsyntax", "note", "error BadSyntax")
        self.told("badline", "note", "error BadLine")
        self.told("badvalue", "note", "error BadValue")

    def test_texts_are_parsed_from_left_to_right(self):
        self.told("badsyntax", "badline", "error BadSyntax")
        self.told("badline", "badsyntax", "error BadLine")
        self.told("badvalue", "badline", "error BadValue")
        # All of them ahead of the function.
        self.told("note", "badline", "error BadLine")
        self.told("note", "badsyntax", "error BadSyntax")

    def test_texts_of_the_other_kind(self):
        self.told("note", "note", "error BadValue")
        self.told("blind", "blind", "error BadValue")
        self.told("note", "blind", "error BadValue")
        self.told("endless", "keeper", "error BadValue")

    def test_plans_that_do_not_fit(self):
        self.told("keeper", "count", "error BadValue")
        self.told("blind", "count", "error BadValue")

    def test_pages(self):
        console = filled()
        # Its texts are parsed ahead of all that the function tells.
        self.assertSame(console.run("costs keeper badline once 301"), "error BadLine")
        self.assertSame(console.run("twins blind badsyntax 0"), "error BadSyntax")
        self.assertSame(console.run("costs keeper nothing once 301"), "error Unknown")

    def test_no_text_is_changed(self):
        console = filled()
        for name in ("nobody", "badsyntax", "badline", "badvalue", "note"):
            for command in self.commands(name, name):
                self.assertTrue(console.run(command).startswith("error "))
        console.run("clear nobody")
        console.run("show nobody")
        for name, text in TEXTS.items():
            self.assertSame(console.run(f"show {name}"), text)
        self.assertSame(console.run("show nobody"), "error Unknown")


class Logs(Case):
    def test_empty(self):
        self.assertSame(Console().log(), "")

    def test_what_is_in_it(self):
        console = Console()
        said = ["line a printer blind forgets tells", "line a  ", "line b ", "show a", "show c", "clear c", "clear a",
                "decide a b once", "decide a c once", "costs a b least 301", "idle b a once", "twins a b 0",
                "line c x", "show a", "show a"]
        wrong = ["", "show", "line a", "shows a", "decide a b twice", "twins a b 01", "costs a b once"]
        for at, command in enumerate(said):
            console.run(command)
            self.assertBadSyntax(0, console.run, wrong[at % len(wrong)])
            self.assertSame(console.log(), "".join(row + "\n" for row in said[:at + 1]))
        # The log is not changed by being read.
        self.assertSame(console.log(), console.log())

    def test_no_share(self):
        one, other = Console(), Console()
        one.run("line a b")
        self.assertEqual(other.run("show a"), "error Unknown")
        self.assertEqual((one.log(), other.log()), ("line a b\n", "show a\n"))
        other.run("line a c")
        self.assertEqual((one.run("show a"), other.run("show a")), ("b\n", "c\n"))
        one.run("clear a")
        self.assertEqual((one.run("show a"), other.run("show a")), ("", "c\n"))
        again = Console.replayed(one.log())
        again.run("line a d")
        self.assertEqual((one.run("show a"), again.run("show a")), ("", "d\n"))
        twice = Console.replayed(one.log()), Console.replayed(one.log())
        twice[0].run("line a e")
        self.assertEqual(twice[1].run("show a"), "")
        self.assertEqual(Console().log(), "")


class Replays(Case):
    def check(self, console, names=()):
        """A console that replays the log has it, keeps the same texts and answers alike."""
        again = Console.replayed(console.log())
        self.assertIs(type(again), Console)
        self.assertSame(again.log(), console.log())
        commands = [f"show {name}" for name in names] + ["show nobody", "line new row", "show new"]
        commands += [f"{word} {one} {other}{rest}" for one in names[:3] for other in names[3:6]
                     for word, rest in zip(ASKING, (" once", " once 2", " least", " 1"))]
        for command in commands:
            self.assertSame(again.run(command), console.run(command))
        self.assertSame(again.log(), console.log())
        return again

    def test_empty_log(self):
        self.check(Console())
        self.assertSame(Console.replayed("").log(), "")

    def test_texts(self):
        console = filled()
        for command in ("show note", "clear note", "clear nobody", "decide blind note once", "line note plan",
                        "line note end", "twins blind note 0", "clear badline", "show badline", "line x  y ", "line x "):
            console.run(command)
        again = self.check(console, ["counter", "keeper", "blind", "note", "count", "endless", "badline", "x", "idle"])
        self.assertSame(again.run("show note"), "plan\nend\n")
        self.assertSame(again.run("show badline"), "")
        self.assertSame(again.run("show x"), " y \n\n")

    def test_replayed_twice(self):
        console = filled(("blind", "note"))
        again = Console.replayed(Console.replayed(console.log()).log())
        self.assertSame(again.log(), console.log())
        self.assertSame(again.run("twins blind note 1"), "5")

    def test_commands_by_chance(self):
        chance = random.Random(95)
        names = ["a", "b", "c", "blind", "note"]
        for _ in range(60):
            console = filled(chance.sample(["blind", "note", "endless"], 2))
            for _ in range(12):
                one, other = chance.choice(names), chance.choice(names)
                command = chance.choice((f"line {one} row", f"line {one} ", f"clear {one}", f"show {one}",
                                         f"costs {one} {other} once 2", f"twins {one} {other} 2",
                                         f"idle {one} {other} once", f"line {one}", "shows", f"decide {one} {other}"))
                try:
                    console.run(command)
                except BadSyntax:
                    pass
            self.check(console, names)

    def test_called_off_a_console(self):
        console = filled(("blind",))
        again = console.replayed("line a b\n")
        self.assertSame(again.log(), "line a b\n")
        self.assertSame(again.run("show blind"), "error Unknown")
        self.assertSame(console.run("show a"), "error Unknown")

    def test_name_of_argument(self):
        self.assertSame(Console.replayed(log="show a\n").log(), "show a\n")

    def test_no_strings(self):
        for wrong in (None, True, 0, (), [], ["show a\n"], ("show a",), 10 ** 30):
            self.assertBadValue(1, Console.replayed, wrong)

    def test_wrong_lines(self):
        rows = ["line a b", "show a", "decide a b once", "costs a a least 9999", "idle a b least", "clear q"]
        for at in range(len(rows)):
            for wrong in Refused.wrong:
                log = "\n".join(rows[:at] + [wrong] + rows[at + 1:]) + "\n"
                self.assertBadSyntax(at, Console.replayed, log)
        # The first one is told.
        self.assertBadSyntax(1, Console.replayed, "show a\nshow\nshow\n")
        self.assertBadSyntax(0, Console.replayed, "\n")
        self.assertBadSyntax(1, Console.replayed, "show a\n\n")

    def test_without_the_last_line_feed(self):
        self.assertBadSyntax(0, Console.replayed, "show a")
        self.assertBadSyntax(0, Console.replayed, "x")
        self.assertBadSyntax(0, Console.replayed, " ")
        self.assertBadSyntax(2, Console.replayed, "show a\nline a b\nshow a")
        self.assertBadSyntax(2, Console.replayed, "show a\nline a b\nx")
        # A wrong line that a line feed ends is told ahead of it.
        self.assertBadSyntax(1, Console.replayed, "show a\nx\nshow a")

    def test_errors_are_no_wrong_lines(self):
        log = "show a\nclear a\ndecide a b once\nline a x\ncosts a a once 9999\n"
        console = Console.replayed(log)
        self.assertSame(console.log(), log)
        self.assertSame(console.run("show a"), "x\n")

    def test_long_log(self):
        log = "".join(f"line a {number}\n" for number in range(5000)) + "decide a a once\n" * 500
        console = Console.replayed(log)
        self.assertSame(console.log(), log)
        self.assertSame(console.run("show a"), "".join(f"{number}\n" for number in range(5000)))
        log = "".join(command + "\n" for command in
                      lines_for("p", TEXTS["keeper"]) + lines_for("q", printed(Plan(SIXTEEN_LINES))))
        log += "decide p q once\n" * 3000
        console = Console.replayed(log)
        self.assertSame(console.run("decide p q once"), "book 2006")
        self.assertSame(console.log(), log + "decide p q once\n")


if __name__ == "__main__":
    unittest.main()
