"""Asking: the texts of questions, read into trees, and written from them.

A tree is ("word", WORD), ("road", ROAD, TREE), or (SIGN, TREE, TREE).
"""

from foldsame.errors import BadQuestion
from foldsame.readings import is_full_name
from foldsame.texts import DIGITS, LETTERS

LONGEST = 200
MOST_OPEN = 8
WORDS = ("all", "funcs", "data", "taken", "used", "kept")
ROADS = ("bodies", "mates", "calls", "takes", "leads")
LOOSE_SIGNS = ("|", "-")
SIGNS = ("&", "|", "-")


def check_text(text):
    """Raises BadQuestion for any value that is no text of a question, or is too long for one."""
    if not isinstance(text, str) or not all([" " <= sign <= "~" for sign in text]):
        raise BadQuestion(None)
    if len(text) > LONGEST:
        raise BadQuestion(LONGEST)


def in_words(sign):
    """Whether a character may stand in a word."""
    return sign in LETTERS or sign in DIGITS or sign == "."


class Parts:
    """The words, signs and parentheses of a text, while they are taken one by one."""

    def __init__(self, text):
        self.text_read = text
        self.opened = 0
        self.go_to(0)

    def go_to(self, place):
        """Goes to the next part at a place or behind it; its word is empty at the end of the text."""
        text = self.text_read
        while place < len(text) and text[place] == " ":
            place += 1
        end = place
        while end < len(text) and in_words(text[end]):
            end += 1
        self.place = place
        self.word = text[place:max(end, place + 1)]

    def go_on(self):
        """Goes to the next part."""
        self.go_to(self.place + len(self.word))

    def enter(self):
        """Takes an open parenthesis. Raises BadQuestion if there is none, or too many are open."""
        if self.word != "(" or self.opened == MOST_OPEN:
            raise BadQuestion(self.place)
        self.opened += 1
        self.go_on()

    def leave(self):
        """Takes a closing parenthesis. Raises BadQuestion if there is none."""
        if self.word != ")":
            raise BadQuestion(self.place)
        self.opened = self.opened - 1
        self.go_on()


def read_single(parts):
    """The tree of a word, a road, or a question in parentheses. Raises BadQuestion."""
    word = parts.word
    if word in ROADS:
        parts.go_on()
        return ("road", word, read_inside(parts))
    if word in WORDS or is_full_name(word):
        parts.go_on()
        return ("word", word)
    return read_inside(parts)


def read_inside(parts):
    """The tree of a question in parentheses. Raises BadQuestion."""
    parts.enter()
    tree = read_loose(parts)
    parts.leave()
    return tree


def read_tight(parts):
    """The tree of what `&` joins. Raises BadQuestion."""
    tree = read_single(parts)
    while parts.word == "&":
        parts.go_on()
        tree = ("&", tree, read_single(parts))
    return tree


def read_loose(parts):
    """The tree of what the other signs join. Raises BadQuestion."""
    tree = read_tight(parts)
    while parts.word in LOOSE_SIGNS:
        sign = parts.word
        parts.go_on()
        tree = (sign, tree, read_tight(parts))
    return tree


def read_question(text):
    """The tree of a text. Raises BadQuestion."""
    check_text(text)
    parts = Parts(text)
    tree = read_loose(parts)
    if parts.word != "":
        raise BadQuestion(parts.place)
    return tree


def within(tree, signs):
    """The text of a tree, in parentheses if it is one of these signs."""
    text = tree_text(tree)
    return f"({text})" if tree[0] in signs else text


def tree_text(tree):
    """The text of a tree, with those parentheses that it needs."""
    if tree[0] == "word":
        return tree[1]
    if tree[0] == "road":
        return f"{tree[1]}({tree_text(tree[2])})"
    # Alike signs go from left to right: a sign of the same kind needs parentheses on the right side alone.
    if tree[0] == "&":
        return within(tree[1], LOOSE_SIGNS) + " & " + within(tree[2], SIGNS)
    return tree_text(tree[1]) + f" {tree[0]} " + within(tree[2], LOOSE_SIGNS)
