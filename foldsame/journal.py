"""The journal: a bench of modules and a shelf that are linked again and again, with trials, and rows for all deeds."""

from foldsame.anew import Link
from foldsame.archives import gather
from foldsame.deeds import deed_line, read_deed
from foldsame.errors import BadJournal, BadModule, BadName, BadText, BadValue, FoldError, UnknownName
from foldsame.programs import Program
from foldsame.texts import is_name, parse_module

MOST_BLOCKS = 8
LENGTHS = {"put": 3, "shelve": 3, "drop": 2, "link": 1, "cancel": 1, "try": 3}


class Held:
    """What a bench holds at one time; it never changes."""

    def __init__(self, texts, members, newest, deeds):
        self.texts = texts
        self.members = members
        self.newest = newest
        self.deeds = deeds


def with_text(texts, name, text):
    """A dict of texts where a name has this text now."""
    changed = dict(texts)
    changed[name] = text
    return changed


def without_name(texts, name):
    """A dict of texts without a name."""
    return {other: texts[other] for other in texts if other != name}


def check_module(name, text):
    """Raises BadName, BadModule for any values that are no name and no text of a module."""
    if not is_name(name):
        raise BadName(name)
    try:
        parse_module(text)
    except BadText as error:
        raise BadModule(name, error.row)


class Bench:
    """Modules and a shelf of members that may join them."""

    def __init__(self, entry="main"):
        if not is_name(entry):
            raise BadName(entry)
        self.entry = entry
        self.now = Held({}, {}, None, ())

    @property
    def modules(self):
        """The modules: a new dict from names to texts."""
        return dict(self.now.texts)

    @property
    def shelf(self):
        """The members of the shelf: a new dict from names to texts."""
        return dict(self.now.members)

    @property
    def last(self):
        """The last Link, or None."""
        return self.now.newest

    @property
    def journal(self):
        """A text with a row for each deed."""
        return "".join([f"{place + 1} {deed_line(deed)}\n" for place, deed in enumerate(self.now.deeds)])

    def put(self, name, text):
        """Gives a module this text. Raises BadName, BadModule."""
        check_module(name, text)
        now = self.now
        self.now = Held(with_text(now.texts, name, text), now.members, now.newest, (*now.deeds, ("put", name, text)))

    def shelve(self, name, text):
        """Gives a member of the shelf this text. Raises BadName, BadModule."""
        check_module(name, text)
        now = self.now
        deeds = (*now.deeds, ("shelve", name, text))
        self.now = Held(now.texts, with_text(now.members, name, text), now.newest, deeds)

    def drop(self, name):
        """Takes a module away, or, if there is none, a member. Raises UnknownName."""
        now = self.now
        deeds = (*now.deeds, ("drop", name))
        if isinstance(name, str) and name in now.texts:
            self.now = Held(without_name(now.texts, name), now.members, now.newest, deeds)
        elif isinstance(name, str) and name in now.members:
            self.now = Held(now.texts, without_name(now.members, name), now.newest, deeds)
        else:
            raise UnknownName(name)

    def link(self):
        """The Link of the modules and what joins them; it is the last one from then on.

        Raises BadModule, BadName, Clash, LimitExceeded.
        """
        now = self.now
        found, _ = gather(now.texts, [now.members], self.entry)
        made = Link(Program(found, self.entry), old=now.newest)
        self.now = Held(now.texts, now.members, made, (*now.deeds, ("link",)))
        return made

    def compact(self):
        """Makes the journal as short as it can be."""
        now = self.now
        deeds = [("put", name, text) for name, text in now.texts.items()]
        deeds.extend([("shelve", name, text) for name, text in now.members.items()])
        self.now = Held(now.texts, now.members, None, tuple(deeds))

    def trial(self):
        """A new object for `with`: a block that raises or is cancelled leaves the bench as it was."""
        return Trial(self)

    def do(self, deeds, *, keep=True):
        """Does deeds in a block of a new trial. Raises BadValue, and what the deeds raise."""
        self.trial().do(deeds, keep=keep)


class Block:
    """A block of a trial that is open: what is around it, and what the bench was ahead of it."""

    def __init__(self, outer, ahead):
        self.outer = outer
        self.ahead = ahead
        self.depth = 1 if outer is None else outer.depth + 1
        # True, and None once the block is cancelled.
        self.stands = True


def is_deed(deed):
    """Whether any value has the form of a deed."""
    if not isinstance(deed, tuple) or len(deed) == 0 or not isinstance(deed[0], str):
        return False
    return deed[0] in LENGTHS and len(deed) == LENGTHS[deed[0]]


class Trial:
    """Blocks of deeds upon a bench, each of which leaves nothing behind if it raises or is cancelled."""

    def __init__(self, bench):
        self.bench = bench
        self.inner = None

    def __enter__(self):
        self.inner = Block(self.inner, self.bench.now)
        return self

    def __exit__(self, kind, value, trace):
        if kind is not None or self.inner.stands is None:
            self.bench.now = self.inner.ahead
        self.inner = self.inner.outer

    def cancel(self):
        """Cancels the innermost block that is open, if there is one."""
        if self.inner is not None:
            self.inner.stands = None

    def do(self, deeds, *, keep=True):
        """Does deeds in a block, cancelled at its end if keep is not True. Raises BadValue, and what they raise."""
        if not isinstance(deeds, (list, tuple)):
            raise BadValue(deeds)
        with self:
            for deed in list(deeds):
                self.act(deed)
            if keep is not True:
                self.cancel()

    def act(self, deed):
        """Does a deed. Raises BadValue, and what it raises."""
        if not is_deed(deed):
            raise BadValue(deed)
        if deed[0] == "put":
            self.bench.put(deed[1], deed[2])
        elif deed[0] == "shelve":
            self.bench.shelve(deed[1], deed[2])
        elif deed[0] == "drop":
            self.bench.drop(deed[1])
        elif deed[0] == "link":
            self.bench.link()
        elif deed[0] == "cancel":
            self.cancel()
        else:
            self.act_within(deed)

    def act_within(self, deed):
        """Does the deeds of a deed `try` in a block within. Raises BadValue, and what they raise."""
        _, deeds, keep = deed
        if isinstance(deeds, (list, tuple)) and self.inner.depth >= MOST_BLOCKS:
            raise BadValue(deed)
        self.do(deeds, keep=keep)


def redo(bench, number, row):
    """Does again what the row of this number tells. Raises BadJournal."""
    head, _, line = row.partition(" ")
    deed = read_deed(line)
    if head != str(number + 1) or deed is None:
        raise BadJournal(number)
    try:
        bench.do([deed])
    except FoldError:
        raise BadJournal(number)


def recover(text, entry="main"):
    """The Bench on which all is done that the rows of a journal tell. Raises BadName, BadJournal."""
    bench = Bench(entry)
    if not isinstance(text, str):
        raise BadJournal(None)
    # What stands behind the last line feed is torn.
    for number, row in enumerate(text.split("\n")[:-1]):
        redo(bench, number, row)
    return bench
