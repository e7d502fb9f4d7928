"""The console: a bench that is told in lines what to do."""

from foldsame.deeds import read_deed
from foldsame.errors import BadModule, BadName, BadQuestion, Clash, LimitExceeded, UnknownName
from foldsame.journal import Bench
from foldsame.noticing import uses
from foldsame.questions import Question

MOST_TRIALS = 4
NAME_WIDTH = 18
NUMBER_WIDTH = 3
ASK = "ask "
UNLINKED = "error unlinked"


def number_column(number):
    """A number, filled up to the width of its column."""
    return str(number).rjust(NUMBER_WIDTH)


def body_line(link, used, part):
    """The row that shows a body."""
    body = part[0]
    addresses = [address for address in link.image.taken if link.image.home_of(address) == body]
    columns = [number_column(many) for many in (len(link.image.rows_of(body)), len(part), len(addresses))]
    return body.ljust(NAME_WIDTH) + "".join(columns) + (" used" if body in used else " left")


def show_line(link):
    """The rows that show the bodies of a Link, in one text."""
    used = uses(link.image)[0]
    return "\n".join([body_line(link, used, part) for part in link.folding.bodies])


def ask_line(link, question):
    """The names that a Question gives for a Link."""
    return " ".join(question(link).names) or "none"


class Console:
    """Does what lines say, and returns texts."""

    def __init__(self, entry="main"):
        self.bench = Bench(entry)
        self._ahead = []

    def __call__(self, line):
        try:
            told = self.told(line)
        except BadName:
            told = "error name"
        except BadModule:
            told = "error module"
        except UnknownName:
            told = "error unknown"
        except Clash:
            told = "error clash"
        except LimitExceeded:
            told = "error limit"
        except BadQuestion:
            told = "error question"
        return "error line" if told is None else told

    def told(self, line):
        """What any value as a line gives, or None if it is no line. Raises what the deeds of a bench raise."""
        if not isinstance(line, str) or "\n" in line:
            return None
        if line == "begin":
            return self.begin()
        if line in ("keep", "cancel"):
            return self.leave(line)
        if line == "show":
            return self.show()
        if line.startswith(ASK):
            return self.ask(Question(line[len(ASK):]))
        return self.told_by_deed(read_deed(line))

    def begin(self):
        """Begins a trial, if one more may be open."""
        if len(self._ahead) == MOST_TRIALS:
            return None
        self._ahead.append(self.bench.now)
        return self.trial_line()

    def leave(self, word):
        """Ends the trial that began last, if one is open; `cancel` gives back what was ahead of it."""
        if not self._ahead:
            return None
        ahead = self._ahead.pop()
        if word == "cancel":
            self.bench.now = ahead
        return self.trial_line()

    def trial_line(self):
        """How many trials are open."""
        return f"trial {len(self._ahead)}"

    def show(self):
        """What the last Link has."""
        return UNLINKED if self.bench.last is None else show_line(self.bench.last)

    def ask(self, question):
        """The answer of the last Link to a Question."""
        return UNLINKED if self.bench.last is None else ask_line(self.bench.last, question)

    def told_by_deed(self, deed):
        """Does a deed, if there is one."""
        if deed is None:
            return None
        if deed[0] == "link":
            return f"size {self.bench.link().size}"
        self.bench.do([deed])
        return "done"
