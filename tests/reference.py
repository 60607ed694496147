"""The document's words done one job at a time, for the tests to compare with.

It knows the kinds of point 29, but no search over kinds: each job is gone
through by itself, with its own number of pages. What comes next of a kind is
asked of some moments that have it.
"""

import functools
from collections import namedtuple

Moment = namedtuple("Moment", "line at ok note way last lying")
START = Moment(0, 0, False, 0, None, 0, 0)


class Job:
    def __init__(self, printer, plan, promise, pages):
        self.printer = printer
        self.lines = plan.lines
        self.promise = promise
        self.pages = pages
        self.piles = any(line == ("count",) for line in plan.lines)

    def moves(self, now):
        """A list of (choice, the next moment, whether the promise is broken at once)."""
        found = []
        ended = now.line is None
        waits = not ended and self.lines[now.line][0] in ("send", "wait")
        if type(now.way) is int:
            if not ended and not waits:
                found.append((0, *self.house(now)))
            lain, wrong = self.lie(now)
            found.append((1, lain._replace(way=("told", True)), wrong))
            jam = ("told", False) if self.printer.tells else ("told", True)
            found.append((2, now._replace(way=jam), False))
            if not ended:
                found.append((3, self.anew(lain), wrong))
                found.append((4, self.anew(now), False))
        elif not ended:
            found.append((0, *self.house(now)))
            found.append((5, self.anew(now), False))
        return [(choice, then, wrong or self.lost(then)) for choice, then, wrong in found]

    def house(self, now):
        word, *more = self.lines[now.line]
        then = now._replace(line=now.line + 1)
        if word == "recall":
            then = then._replace(at=now.note)
        if word == "note":
            then = then._replace(note=now.at)
        if word == "count":
            then = then._replace(at=now.lying)
        if word == "add":
            then = then._replace(at=now.at + 1)
        if word == "send":
            then = then._replace(way=now.at)
        if word == "wait" and now.way is not None:
            then = then._replace(ok=now.way[1], way=None)
        if word == "go":
            then = then._replace(line=more[0])
        if more and more[0] == "done" and now.at >= self.pages:
            then = then._replace(line=more[1])
        if more and more[0] == "ok" and now.ok:
            then = then._replace(line=more[1])
        if word == "end":
            short = type(now.way) is int or now.last != self.pages
            return then._replace(line=None), short
        return then, False

    def lie(self, now):
        p = now.way
        if self.printer.remembers and p <= now.last:
            return now, False
        wrong = p < 1 or p > self.pages
        if self.promise == "once":
            wrong = wrong or p != now.last + 1
        else:
            wrong = wrong or p > now.last + 1
        lying = now.lying + 1 if self.piles else 0
        return now._replace(last=max(p, now.last), lying=lying), wrong

    def anew(self, now):
        return now._replace(line=0, at=0, ok=False, way=None)

    def lost(self, now):
        numbers = [now.at, now.note, now.lying]
        if type(now.way) is int:
            numbers.append(now.way)
        return any(n > 3 and abs(n - now.last) > 3 for n in numbers)

    @staticmethod
    def pair(number, last):
        return (0, number - last) if -3 <= number - last <= 3 else (1, number)

    def kind(self, now):
        way = self.pair(now.way, now.last) if type(now.way) is int else now.way
        at, note, lying = (self.pair(number, now.last) for number in (now.at, now.note, now.lying))
        small = min(now.last, 8)
        left = min(self.pages - now.last, 5)
        return (now.line, at, now.ok, note, way, lying, small, left)

    def run_move(self, now):
        """The move with nothing between: of the house, or else of the sheet; None at the end."""
        moves = [move for move in self.moves(now) if move[0] in (0, 1)]
        return moves[0] if moves else None

    def never(self, now):
        """Whether the promise is never fulfilled at a moment."""
        seen = set()
        while now not in seen:
            seen.add(now)
            move = self.run_move(now)
            if move is None or move[2]:
                return False
            now = move[1]
        return True

    def costs(self):
        """Point 34."""
        now = START
        notes, sheets, steps = 0, 0, 0
        seen = set()
        while self.run_move(now) is not None:
            choice, then, wrong = self.run_move(now)
            if wrong or now in seen:
                return None
            seen.add(now)
            steps += 1
            notes += choice == 0 and self.lines[now.line] == ("note",)
            sheets += choice == 0 and self.lines[now.line] == ("send",)
            now = then
        return notes, sheets, steps

    def twins(self):
        """Point 36, for a printer that neither counts nor remembers."""
        now = START
        seen = []
        while now.way is None:
            if now.line is None or now in seen or now.at > 3 or now.note > 3:
                return None
            seen.append(now)
            now, _ = self.house(now)
        return (0,) * len(seen) + (3,), (0,) * len(seen) + (4,)

    def moments(self):
        """All moments on courses on which the promise is broken at once at no choice."""
        seen = {START}
        layer = [START]
        while layer:
            layer = [then for now in layer for _, then, wrong in self.moves(now) if not wrong]
            layer = [then for then in dict.fromkeys(layer) if then not in seen]
            seen.update(layer)
        return seen

    def has_break_within(self, most):
        """Whether a course of at most so many choices breaks the promise."""
        seen = {START}
        layer = [START]
        for length in range(most + 1):
            if any(self.never(now) for now in layer):
                return True
            moves = [move for now in layer for move in self.moves(now)]
            if length < most and any(wrong for _, _, wrong in moves):
                return True
            layer = [then for then in dict.fromkeys(then for _, then, _ in moves) if then not in seen]
            seen.update(layer)
        return False

    def breaks(self, course):
        """Whether a course breaks the promise, as point 28 says."""
        now = START
        for place, choice in enumerate(course):
            found = {move[0]: move for move in self.moves(now)}
            if choice not in found:
                return False
            _, now, wrong = found[choice]
            if wrong:
                return place == len(course) - 1
        return self.never(now)


def sample(kind, last_more=0, left_more=0):
    """A (moment, pages) of a kind; more only where the kind leaves it open."""
    line, at, ok, note, way, lying, small, left = kind
    last = small + (last_more if small == 8 else 0)
    pages = last + left + (left_more if left == 5 else 0)

    def number(pair):
        return last + pair[1] if pair[0] == 0 else pair[1]

    if way is not None and way[0] != "told":
        way = number(way)
    return Moment(line, number(at), ok, number(note), way, last, number(lying)), pages


def as_tuples(value):
    """The value with a tuple for each list, at every level."""
    if isinstance(value, (list, tuple)):
        return tuple(as_tuples(item) for item in value)
    return value


@functools.cache
def parts_of_kinds(lines, small):
    """The texts of what may stand in each place of a kind with this number small."""
    numbers = [number for number in range(small + 4) if number <= 3 or abs(number - small) <= 3]
    pairs = [Job.pair(number, small) for number in numbers]
    ways = [None, ("told", False), ("told", True)] + pairs
    lying = pairs if ("count",) in lines else [Job.pair(0, small)]
    parts = [[None, *range(len(lines))], pairs, [False, True], pairs, ways, lying, [small], range(6)]
    # By their texts True is not 1.
    return [set(map(repr, part)) for part in parts]


def is_kind(plan, value):
    """Whether a value, lists made tuples, is a kind as points 29 and 31 say."""
    if not isinstance(value, tuple) or len(value) != 8 or repr(value[6]) not in map(str, range(9)):
        return False
    parts = parts_of_kinds(plan.lines, value[6])
    if not all(repr(part) in known for part, known in zip(value, parts)):
        return False
    line, way, left = value[0], value[4], value[7]
    return line is not None or left == 0 and (way is None or way[0] == "told")


def kinds_behind(printer, plan, promise, kind):
    """The kinds that may come next of a kind, and whether the promise may be broken at once."""
    behind, breaks = {}, False
    for last_more in (0, 5):
        for left_more in (0, 1):
            now, pages = sample(kind, last_more, left_more)
            job = Job(printer, plan, promise, pages)
            for _, then, wrong in job.moves(now):
                breaks = breaks or wrong
                if not wrong:
                    behind[job.kind(then)] = True
    return list(behind), breaks


def run_behind(printer, plan, promise, kind):
    """The kind that comes next in a run, None at its end or where last becomes greater."""
    now, pages = sample(kind)
    job = Job(printer, plan, promise, pages)
    move = job.run_move(now)
    if move is None or move[2] or move[1].last > now.last:
        return None
    return job.kind(move[1])


def closed(printer, plan, promise, kinds):
    """The kinds with all that come behind them; None if the promise may be broken then."""
    found = dict.fromkeys(kinds)
    waiting = list(found)
    while waiting:
        behind, breaks = kinds_behind(printer, plan, promise, waiting.pop())
        if breaks:
            return None
        waiting += [kind for kind in behind if kind not in found]
        found.update(dict.fromkeys(behind))
    return list(found)


def has_round(printer, plan, promise, kinds):
    """Whether a run from one of the kinds comes round and last never becomes greater."""
    ends = {None}
    for kind in kinds:
        passed = set()
        while kind not in ends:
            if kind in passed:
                return True
            passed.add(kind)
            kind = run_behind(printer, plan, promise, kind)
        ends |= passed
    return False


def holds(printer, plan, promise, book):
    """Point 31, of any value."""
    if not isinstance(book, (list, tuple)):
        return False
    book = as_tuples(book)
    if not all(is_kind(plan, kind) for kind in book):
        return False
    if any(order(one) >= order(other) for one, other in zip(book, book[1:])):
        return False
    known = set(book)
    if not all(Job(printer, plan, promise, pages).kind(START) in known for pages in range(6)):
        return False
    for kind in book:
        behind, breaks = kinds_behind(printer, plan, promise, kind)
        if breaks or not known.issuperset(behind):
            return False
    return not has_round(printer, plan, promise, book)


def order(kind):
    """A key that sorts kinds as point 12 says."""
    def key(value):
        if value is None:
            return (0,)
        if value == "told":
            return (2,)
        if isinstance(value, tuple):
            return (1, [key(item) for item in value])
        return (1, int(value))

    return [key(item) for item in kind]
