"""The document's words done one job at a time, for the tests to compare with.

It knows the kinds of point 29, but no search over kinds: each job is gone
through by itself, with its own number of pages.
"""

from collections import namedtuple

Moment = namedtuple("Moment", "line at ok note way last lying")
START = Moment(0, 0, False, 0, None, 0, 0)


class Job:
    def __init__(self, printer, plan, promise, pages):
        self.printer = printer
        self.lines = plan.lines
        self.promise = promise
        self.pages = pages
        self.piles = any(line == ("count",) for line in plan.lines)

    def moves(self, now):
        """A list of (choice, the next moment, whether the promise is broken at once)."""
        found = []
        ended = now.line is None
        waits = not ended and self.lines[now.line][0] in ("send", "wait")
        if type(now.way) is int:
            if not ended and not waits:
                found.append((0, *self.house(now)))
            lain, wrong = self.lie(now)
            found.append((1, lain._replace(way=("told", True)), wrong))
            jam = ("told", False) if self.printer.tells else ("told", True)
            found.append((2, now._replace(way=jam), False))
            if not ended:
                found.append((3, self.anew(lain), wrong))
                found.append((4, self.anew(now), False))
        elif not ended:
            found.append((0, *self.house(now)))
            found.append((5, self.anew(now), False))
        return [(choice, then, wrong or self.lost(then)) for choice, then, wrong in found]

    def house(self, now):
        word, *more = self.lines[now.line]
        then = now._replace(line=now.line + 1)
        if word == "recall":
            then = then._replace(at=now.note)
        if word == "note":
            then = then._replace(note=now.at)
        if word == "count":
            then = then._replace(at=now.lying)
        if word == "add":
            then = then._replace(at=now.at + 1)
        if word == "send":
            then = then._replace(way=now.at)
        if word == "wait" and now.way is not None:
            then = then._replace(ok=now.way[1], way=None)
        if word == "go":
            then = then._replace(line=more[0])
        if more and more[0] == "done" and now.at >= self.pages:
            then = then._replace(line=more[1])
        if more and more[0] == "ok" and now.ok:
            then = then._replace(line=more[1])
        if word == "end":
            short = type(now.way) is int or now.last != self.pages
            return then._replace(line=None), short
        return then, False

    def lie(self, now):
        p = now.way
        if self.printer.remembers and p <= now.last:
            return now, False
        wrong = p < 1 or p > self.pages
        if self.promise == "once":
            wrong = wrong or p != now.last + 1
        else:
            wrong = wrong or p > now.last + 1
        lying = now.lying + 1 if self.piles else 0
        return now._replace(last=max(p, now.last), lying=lying), wrong

    def anew(self, now):
        return now._replace(line=0, at=0, ok=False, way=None)

    def lost(self, now):
        numbers = [now.at, now.note, now.lying]
        if type(now.way) is int:
            numbers.append(now.way)
        return any(n > 3 and abs(n - now.last) > 3 for n in numbers)

    def kind(self, now):
        def pair(n):
            return (0, n - now.last) if -3 <= n - now.last <= 3 else (1, n)

        way = pair(now.way) if type(now.way) is int else now.way
        small = min(now.last, 8)
        left = min(self.pages - now.last, 5)
        return (now.line, pair(now.at), now.ok, pair(now.note), way, pair(now.lying), small, left)

    def never(self, now):
        """Whether the promise is never fulfilled at a moment."""
        seen = set()
        while now not in seen:
            seen.add(now)
            moves = [move for move in self.moves(now) if move[0] in (0, 1)]
            if not moves or moves[0][2]:
                return False
            now = moves[0][1]
        return True

    def moments(self):
        """All moments on courses on which the promise is broken at once at no choice."""
        seen = {START}
        layer = [START]
        while layer:
            layer = [then for now in layer for _, then, wrong in self.moves(now) if not wrong]
            layer = [then for then in dict.fromkeys(layer) if then not in seen]
            seen.update(layer)
        return seen

    def has_break_within(self, most):
        """Whether a course of at most so many choices breaks the promise."""
        seen = {START}
        layer = [START]
        for length in range(most + 1):
            if any(self.never(now) for now in layer):
                return True
            moves = [move for now in layer for move in self.moves(now)]
            if length < most and any(wrong for _, _, wrong in moves):
                return True
            layer = [then for then in dict.fromkeys(then for _, then, _ in moves) if then not in seen]
            seen.update(layer)
        return False

    def breaks(self, course):
        """Whether a course breaks the promise, as point 28 says."""
        now = START
        for place, choice in enumerate(course):
            found = {move[0]: move for move in self.moves(now)}
            if choice not in found:
                return False
            _, now, wrong = found[choice]
            if wrong:
                return place == len(course) - 1
        return self.never(now)


def sample(kind, last_more=0, left_more=0):
    """A (moment, pages) of a kind; more only where the kind leaves it open."""
    line, at, ok, note, way, lying, small, left = kind
    last = small + (last_more if small == 8 else 0)
    pages = last + left + (left_more if left == 5 else 0)

    def number(pair):
        return last + pair[1] if pair[0] == 0 else pair[1]

    if way is not None and way[0] != "told":
        way = number(way)
    return Moment(line, number(at), ok, number(note), way, last, number(lying)), pages


def order(kind):
    """A key that sorts kinds as point 12 says."""
    def key(value):
        if value is None:
            return (0,)
        if value == "told":
            return (2,)
        if isinstance(value, tuple):
            return (1, [key(item) for item in value])
        return (1, int(value))

    return [key(item) for item in kind]
