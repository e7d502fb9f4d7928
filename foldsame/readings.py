"""Readings: what the text of an image says, row by row, with numbers in place of names."""

from foldsame.errors import BadText
from foldsame.texts import FORMS, KINDS, MOST_ROWS
from foldsame.texts import is_name, read_integer, read_parts


def is_full_name(word):
    """Whether a word has the form of a full name."""
    parts = word.split(".")
    return len(parts) == 2 and all([is_name(part) for part in parts])


def read_numbered(words):
    """The row of an instruction's words, with a number for its NAME, or None if they are none."""
    if words[0] not in FORMS:
        return None
    return read_parts(words, tuple(["integer" if sort == "name" else sort for sort in FORMS[words[0]]]))


def read_word(words):
    """A word of data that stands alone in a row: an integer, or ("at", number); None if there is none."""
    if len(words) != 1:
        return None
    if words[0][:1] != "@":
        return read_integer(words[0])
    number = read_integer(words[0][1:])
    return None if number is None else ("at", number)


class Reading:
    """The text of an image, while its rows are read in order."""

    def __init__(self):
        self.entry = None
        self.addresses = []
        self.bodies = []
        self.inside = False

    def take(self, words):
        """Takes the next row; whether it may stand there."""
        if self.entry is None:
            return self.take_image(words)
        if self.inside:
            return self.take_within(words)
        if words[0] in KINDS:
            return self.take_head(words)
        return words[0] == "address" and not self.bodies and self.take_address(words)

    def take_image(self, words):
        """Takes the first row; whether it is right."""
        if words[0] != "image" or len(words) < 2:
            return False
        self.entry = read_integer(words[1])
        return self.entry is not None

    def take_address(self, words):
        """Takes the row of an address; whether it is right."""
        if len(words) < 3 or not all([is_full_name(word) for word in words[2:]]):
            return False
        body = read_integer(words[1])
        self.addresses.append((body, tuple(words[2:])))
        return body is not None

    def take_head(self, words):
        """Takes the head of a body; whether it is right."""
        if len(words) < 2 or not all([is_full_name(word) for word in words[1:]]):
            return False
        self.bodies.append((words[0], tuple(words[1:]), []))
        self.inside = True
        return True

    def take_within(self, words):
        """Takes a row of a body, or its end; whether it is right."""
        if words == ["end"]:
            self.inside = False
            return True
        kind, _, rows = self.bodies[-1]
        row = read_numbered(words) if kind == "func" else read_word(words)
        if row is None or len(rows) == MOST_ROWS:
            return False
        rows.append(row)
        return True


def read_rows(text):
    """The Reading of a text. Raises BadText(row), or BadText(None) for no text."""
    if not isinstance(text, str):
        raise BadText(None)
    reading = Reading()
    rows = text.split("\n")
    for number, row in enumerate(rows):
        if not reading.take(row.split(" ")):
            raise BadText(number)
    if reading.inside:
        raise BadText(len(rows))
    return reading
