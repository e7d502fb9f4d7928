"""The texts of modules: rows of words, read into pieces."""

from foldsame.errors import BadText

LETTERS = "abcdefghijklmnopqrstuvwxyz"
DIGITS = "0123456789"
LONGEST_NAME = 8
MOST_ROWS = 16
MOST_PIECES = 12
KINDS = ("func", "data")
OTHER_WORDS = ("func", "data", "end", "export", "alias")
REGISTERS = ("a", "b", "c", "d")

# What stands behind each instruction's first word.
FORMS = {
    "call": ("name",),
    "callr": ("reg",),
    "ret": (),
    "addr": ("reg", "name"),
    "set": ("reg", "integer"),
    "move": ("reg", "reg"),
    "read": ("reg", "name", "integer"),
    "readr": ("reg", "reg", "integer"),
    "same": ("reg", "reg", "to"),
    "choose": ("to",),
    "tell": ("reg",),
    "go": ("to",),
}


def is_name(value):
    """Whether any value is a name."""
    if not isinstance(value, str) or not 1 <= len(value) <= LONGEST_NAME:
        return False
    if value in OTHER_WORDS or value in FORMS:
        return False
    return value[0] in LETTERS and all([sign in LETTERS or sign in DIGITS for sign in value])


def is_integer(value):
    """Whether any value is an integer: True and False are none."""
    return isinstance(value, int) and not isinstance(value, bool)


def read_integer(word):
    """The integer from 0 to 99 that a word writes, or None."""
    if not 1 <= len(word) <= 2 or not all([sign in DIGITS for sign in word]):
        return None
    if len(word) == 2 and word[0] == "0":
        return None
    return int(word)


def read_part(word, sort):
    """The value of a word of an instruction, or None if it is not of this sort."""
    if sort == "name":
        return word if is_name(word) else None
    if sort == "reg":
        return word if word in REGISTERS else None
    return read_integer(word)


def read_parts(words, form):
    """The row of words that have a form behind the first one, or None if they have not."""
    if len(words) != len(form) + 1:
        return None
    parts = [read_part(word, sort) for word, sort in zip(words[1:], form)]
    if any([part is None for part in parts]):
        return None
    return (words[0], *parts)


def read_instruction(words):
    """The row of an instruction's words, or None if they are none."""
    if words[0] not in FORMS:
        return None
    return read_parts(words, FORMS[words[0]])


def read_datum(words):
    """The word of data that stands alone in a row, or None if there is none."""
    if len(words) != 1:
        return None
    return words[0] if is_name(words[0]) else read_integer(words[0])


def target_of(row):
    """The TO of an instruction, or None if it has none."""
    return row[-1] if "to" in FORMS[row[0]] else None


def split_rows(text):
    """The rows of a text, each as the list of its words."""
    if text == "":
        return []
    return [row.split(" ") for row in text.split("\n")]


def row_line(row):
    """A row of a piece, as it stands in a text."""
    if isinstance(row, tuple):
        return " ".join([str(part) for part in row])
    return str(row)


def module_lines(module):
    """The rows of a text of a module."""
    lines = []
    if module.exports:
        lines.append("export " + " ".join(module.exports))
    for name, other in module.aliases:
        lines.append(f"alias {name} {other}")
    for piece in module.pieces:
        lines.append(f"{piece.kind} {piece.name}")
        lines.extend([row_line(row) for row in piece.rows])
        lines.append("end")
    return lines


class Piece:
    """A function or data, with its rows."""

    def __init__(self, name, kind, rows):
        self.name = name
        self.kind = kind
        self.rows = rows

    def __len__(self):
        return len(self.rows)

    def __eq__(self, other):
        return (isinstance(other, Piece) and self.name == other.name
                and self.kind == other.kind and self.rows == other.rows)


class Module:
    """The pieces, exports and aliases of a module's text."""

    def __init__(self, pieces, exports, aliases):
        self.pieces = pieces
        self.exports = exports
        self.aliases = aliases
        self._named = {piece.name: True for piece in pieces}
        for name, _ in aliases:
            self._named[name] = True

    def __contains__(self, name):
        return isinstance(name, str) and name in self._named

    def __str__(self):
        return "\n".join(module_lines(self))

    def __iter__(self):
        return iter(self.pieces)

    def __eq__(self, other):
        return (isinstance(other, Module) and self.pieces == other.pieces
                and self.exports == other.exports and self.aliases == other.aliases)


class Draft:
    """A module whose rows are being read, in order."""

    def __init__(self):
        self.pieces = []
        self.exports = {}
        self.aliases = []
        self.named = {}
        self.kind = None
        self.name = None
        self.start = 0
        self.rows = []

    def take(self, number, words):
        """Takes the next row. Raises BadText for the row that is wrong."""
        if self.kind is None:
            right = self.take_between(number, words)
        elif words == ["end"]:
            self.close_piece()
            right = True
        else:
            right = self.take_within(words)
        if not right:
            raise BadText(number)

    def take_between(self, number, words):
        """Takes a row outside of pieces; whether it is right."""
        if words[0] == "export":
            return self.take_exports(words[1:])
        if words[0] == "alias":
            return self.take_alias(words[1:])
        return words[0] in KINDS and self.open_piece(number, words)

    def take_exports(self, names):
        """Takes what a row exports; whether it is right."""
        for name in names:
            if not is_name(name) or name in self.exports:
                return False
            self.exports[name] = True
        return len(names) > 0

    def take_alias(self, names):
        """Takes an alias; whether it is right."""
        if len(names) != 2 or not is_name(names[1]) or not self.take_name(names[0]):
            return False
        self.aliases.append((names[0], names[1]))
        return True

    def take_name(self, name):
        """Takes the name of a piece or alias; whether it may have it."""
        if not is_name(name) or name in self.named:
            return False
        self.named[name] = True
        return True

    def open_piece(self, number, words):
        """Begins the piece of a head; whether the head is right."""
        if len(words) != 2 or len(self.pieces) == MOST_PIECES or not self.take_name(words[1]):
            return False
        self.kind, self.name = words
        self.start = number + 1
        self.rows = []
        return True

    def take_within(self, words):
        """Takes a row of the piece that is open; whether it is right."""
        row = read_instruction(words) if self.kind == "func" else read_datum(words)
        if row is None or len(self.rows) == MOST_ROWS:
            return False
        self.rows.append(row)
        return True

    def close_piece(self):
        """Ends the piece. Raises BadText for the first TO that is too great."""
        if self.kind == "func":
            for at, row in enumerate(self.rows):
                target = target_of(row)
                if target is not None and target > len(self.rows):
                    raise BadText(self.start + at)
        self.pieces.append(Piece(self.name, self.kind, tuple(self.rows)))
        self.kind = None


def parse_module(text):
    """The Module of a text. Raises BadText(row), or BadText(None) for no text."""
    if not isinstance(text, str):
        raise BadText(None)
    draft = Draft()
    rows = split_rows(text)
    for number, words in enumerate(rows):
        draft.take(number, words)
    if draft.kind is not None:
        raise BadText(len(rows))
    return Module(tuple(draft.pieces), tuple(draft.exports), tuple(draft.aliases))
