"""A console that keeps texts by names and answers commands about them."""

from pagesonce.deciding import decide, idle_lines
from pagesonce.errors import BadLine, BadSyntax, BadValue
from pagesonce.promises import is_promise
from pagesonce.running import costs, twins
from pagesonce.texts import is_numeral, parse, split_lines

MOST_LETTERS = 12
LETTERS = "abcdefghijklmnopqrstuvwxyz"
# What stands behind the first word of a command; line alone has another form.
FORMS = {
    "clear": ("name",),
    "show": ("name",),
    "decide": ("name", "name", "promise"),
    "costs": ("name", "name", "promise", "number"),
    "idle": ("name", "name", "promise"),
    "twins": ("name", "name", "number"),
}


class Console:
    """Texts by names, and the log of the commands that have been run."""

    def __init__(self):
        self._texts = {}
        self._commands = []

    def run(self, command):
        """The answer to a command; BadSyntax(0) if it has none of the forms."""
        words = _command_words(command)
        if words is None:
            raise BadSyntax(0)
        self._commands.append(command)
        return self._answer(words)

    def log(self):
        """The commands that have been answered, each followed by a line feed."""
        return "".join([command + "\n" for command in self._commands])

    @staticmethod
    def replayed(log):
        """A console as if it had run the commands of a log."""
        if not isinstance(log, str):
            raise BadValue(1)
        commands, rest = split_lines(log)
        forms = [_command_words(command) for command in commands]
        if None in forms:
            raise BadSyntax(forms.index(None))
        if rest != "":
            raise BadSyntax(len(commands))
        console = Console()
        console._commands = commands
        # The other commands change nothing but the log.
        for words in forms:
            if words[0] in ("line", "clear"):
                console._change(words)
        return console

    def _answer(self, words):
        if words[0] != "line" and not all([name in self._texts for name in _names(words)]):
            return "error Unknown"
        if words[0] in ("line", "clear"):
            self._change(words)
            return "ok"
        if words[0] == "show":
            return self._text(words[1])
        try:
            printer = parse(self._text(words[1]))
            plan = parse(self._text(words[2]))
            return _told(words, printer, plan)
        except BadValue:
            return "error BadValue"
        except BadLine:
            return "error BadLine"
        except BadSyntax:
            return "error BadSyntax"

    def _change(self, words):
        name = words[1]
        if words[0] == "line":
            self._texts.setdefault(name, []).append(words[2])
        elif name in self._texts:
            self._texts[name] = []

    def _text(self, name):
        return "".join([row + "\n" for row in self._texts[name]])


def _command_words(command):
    """The words of a command, the line of line being one; None if it has none of the forms."""
    words = command.split(" ")
    if words[0] == "line":
        return _line_words(command)
    form = FORMS.get(words[0])
    if form is None or len(words) != len(form) + 1:
        return None
    if not all([_fits(word, part) for word, part in zip(words[1:], form)]):
        return None
    return words


def _line_words(command):
    word, _, more = command.partition(" ")
    name, blank, row = more.partition(" ")
    if blank == "" or not _is_name(name):
        return None
    return [word, name, row]


def _fits(word, part):
    """Whether a word is one for its part of a form."""
    if part == "name":
        return _is_name(word)
    if part == "promise":
        return is_promise(word)
    return is_numeral(word)


def _is_name(word):
    return 1 <= len(word) <= MOST_LETTERS and all([sign in LETTERS for sign in word])


def _names(words):
    """The names of texts among the words of a command."""
    return [word for word, part in zip(words[1:], FORMS[words[0]]) if part == "name"]


def _told(words, printer, plan):
    """What is told of a printer and a plan."""
    if words[0] == "twins":
        return _told_twins(twins(printer, plan, int(words[3])))
    promise = words[3]
    if words[0] == "decide":
        return _told_decision(decide(printer, plan, promise))
    if words[0] == "costs":
        return _joined(costs(printer, plan, promise, int(words[4])))
    return _joined(idle_lines(printer, plan, promise))


def _told_twins(found):
    return "none" if found is None else str(len(found[0]))


def _told_decision(decision):
    word, found = decision
    if word == "book":
        return f"book {len(found)}"
    pages, course = found
    return f"course {pages} {len(course)}"


def _joined(numbers):
    """The numbers joined by commas, or none if there are none."""
    return ",".join([str(number) for number in numbers]) if numbers else "none"
