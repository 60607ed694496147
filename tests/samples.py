"""Printers and plans for the tests, and ways to make more of them."""

import itertools
import random

from pagesonce.plans import Plan, Printer

PRINTERS = [Printer(*able) for able in itertools.product((False, True), repeat=3)]
COUNTING = [printer for printer in PRINTERS if printer.counts]
REMEMBERING = [printer for printer in PRINTERS if printer.remembers and printer.tells]
TELLING = [printer for printer in PRINTERS if printer.tells]

COUNT_LINES = (("count",), ("if", "done", 6), ("add",), ("send",), ("wait",), ("go", 0), ("end",))
# As COUNT_LINES, but it asks once, and trusts the printer's word from there on.
COUNT_ONCE_LINES = (("count",), ("if", "done", 7), ("add",), ("send",), ("wait",), ("if", "ok", 1),
                    ("go", 0), ("end",))
NOTE_LINES = (("recall",), ("if", "done", 9), ("add",), ("send",), ("wait",), ("if", "ok", 7),
              ("go", 0), ("note",), ("go", 0), ("end",))
NOTE_BLINDLY_LINES = (("recall",), ("if", "done", 7), ("add",), ("send",), ("wait",), ("note",),
                      ("go", 0), ("end",))
# Two lines that nothing leads to, behind a jump.
IDLE_LINES = (("count",), ("if", "done", 8), ("add",), ("send",), ("wait",), ("go", 0), ("note",),
              ("add",), ("end",))
SIXTEEN_LINES = (("wait",), ("wait",), ("recall",), ("if", "done", 15), ("add",), ("send",), ("wait",),
                 ("if", "ok", 10), ("wait",), ("go", 0), ("note",), ("wait",), ("go", 0),
                 ("recall",), ("go", 13), ("end",))
# Sends each sheet twice at once; only a printer that remembers takes each once.
RESEND_LINES = (("recall",), ("if", "done", 10), ("add",), ("send",), ("send",), ("wait",),
                ("if", "ok", 8), ("go", 0), ("note",), ("go", 0), ("end",))
# Comes to its line 4 with nothing, a sheet or something to be told, all else being the same.
WAYS_LINES = (("count",), ("add",), ("go", 4), ("send",), ("wait",), ("count",), ("if", "done", 9), ("add",),
              ("go", 3), ("end",))
# Begins with sheet 0, which a printer that remembers does not take.
ZERO_LINES = (("send",), ("count",), ("wait",), ("if", "done", 7), ("add",), ("send",), ("go", 1), ("end",))
# note is 3 at all times.
STAY_LINES = (("add",), ("add",), ("add",), ("note",), ("wait",), ("count",), ("if", "done", 11), ("add",),
              ("send",), ("wait",), ("go", 5), ("end",))
# at becomes 3 more than last.
AHEAD_LINES = (("count",), ("add",), ("add",), ("add",), ("count",), ("if", "done", 10), ("add",), ("send",),
               ("wait",), ("go", 0), ("end",))
# A cut spoils it only behind many pages: the break is far away.
FAR_LINES = (("wait",), ("if", "done", 15), ("send",), ("send",), ("send",), ("send",), ("add",),
             ("send",), ("send",), ("wait",), ("send",), ("if", "ok", 14), ("recall",), ("note",),
             ("go", 0), ("end",))

# (printers, lines, promise) with which the plan keeps the promise.
KEPT = (
    [(printer, COUNT_LINES, promise) for printer in COUNTING for promise in ("once", "least")]
    + [(printer, COUNT_ONCE_LINES, promise) for printer in COUNTING if printer.tells
       for promise in ("once", "least")]
    + [(printer, NOTE_LINES, promise) for printer in REMEMBERING for promise in ("once", "least")]
    + [(printer, NOTE_LINES, "least") for printer in TELLING]
    + [(printer, IDLE_LINES, promise) for printer in COUNTING[:2] for promise in ("once", "least")]
    + [(printer, lines, "once") for printer in COUNTING[1:2] for lines in (WAYS_LINES, STAY_LINES, AHEAD_LINES)]
    + [(printer, ZERO_LINES, "once") for printer in COUNTING if printer.remembers]
    + [(printer, SIXTEEN_LINES, "once") for printer in REMEMBERING[:1]]
    + [(printer, SIXTEEN_LINES, "least") for printer in TELLING[:1]]
)


def random_line(chance, many, counting):
    words = ["recall", "note", "add", "send", "wait", "end", "go", "done", "ok", "add", "send", "wait"]
    word = chance.choice(words + ["count"] * (3 if counting else 0))
    if word == "go":
        return ("go", chance.randrange(many))
    if word in ("done", "ok"):
        return ("if", word, chance.randrange(many))
    return (word,)


def with_line(lines, place, line):
    """The lines with one put in; the jumps lead where they led."""
    moved = [row[:-1] + (row[-1] + 1,) if row[0] in ("go", "if") and row[-1] >= place else row
             for row in lines]
    return moved[:place] + [line] + moved[place:]


def random_lines(chance, counting):
    """A good plan with a few lines changed, or a plan of lines by chance."""
    if chance.random() < 0.3:
        many = chance.randrange(1, 9)
        lines = [random_line(chance, many, counting) for _ in range(many)]
    else:
        lines = list(chance.choice((COUNT_LINES, COUNT_ONCE_LINES) if counting
                                   else (NOTE_LINES, NOTE_BLINDLY_LINES)))
        for _ in range(chance.choice((1, 1, 2))):
            place = chance.randrange(len(lines))
            line = random_line(chance, len(lines), counting)
            if chance.random() < 0.5:
                lines[place] = line
            else:
                lines = with_line(lines, place, line)
    if lines[-1][0] not in ("go", "end"):
        lines[-1] = ("end",)
    return lines


def random_cases(seed, many):
    """So many (printer, plan, promise), the same ones for the same seed."""
    chance = random.Random(seed)
    cases = []
    for _ in range(many):
        printer = chance.choice(PRINTERS)
        plan = Plan(random_lines(chance, printer.counts))
        cases.append((printer, plan, chance.choice(("once", "least"))))
    return cases
