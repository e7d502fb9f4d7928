"""Questions: sets of pieces, and what is asked of the program and the image of a Link."""

from foldsame.anew import leading, named_pieces
from foldsame.asking import read_question, tree_text
from foldsame.errors import UnknownName
from foldsame.noticing import uses
from foldsame.programs import taken_names


class Names:
    """A set of pieces of a program."""

    def __init__(self, program, names):
        for name in names:
            if name not in program:
                raise UnknownName(name)
        self.program = program
        self.names = tuple(sorted(set(names)))

    def within(self, other):
        """Whether all of the names are in another set."""
        return all([name in other.names for name in self.names])

    def __and__(self, other):
        return Names(self.program, [name for name in self.names if name in other.names])

    def __or__(self, other):
        return Names(self.program, [*self.names, *other.names])

    def __sub__(self, other):
        return Names(self.program, [name for name in self.names if name not in other.names])

    def __contains__(self, name):
        return isinstance(name, str) and name in self.names

    def __len__(self):
        return len(self.names)

    def __iter__(self):
        return iter(self.names)

    def __eq__(self, other):
        return isinstance(other, Names) and self.program == other.program and self.names == other.names


def of_kind(program, kind):
    """The pieces of a kind."""
    return [name for name in program.pieces if program.kind_of(name) == kind]


def mates_in(parts, names):
    """The pieces that are in one of the parts with one of some names."""
    return [other for part in parts if any([name in part for name in names]) for other in part]


def word_names(link, word):
    """The names that a word gives. Raises LimitExceeded."""
    program = link.program
    if word == "all":
        return program.pieces
    if word == "funcs":
        return of_kind(program, "func")
    if word == "data":
        return of_kind(program, "data")
    if word == "taken":
        return program.taken
    if word == "used":
        return uses(program)[0]
    if word == "kept":
        return uses(link.image)[0]
    return (word,)


def road_names(link, road, names):
    """The names to which a road leads from others."""
    program = link.program
    if road == "bodies":
        return mates_in(link.folding.bodies, names)
    if road == "mates":
        return mates_in(link.folding.addresses, names)
    if road == "calls":
        return [other for name in names for other in named_pieces(program, name)]
    if road == "takes":
        return [other for name in names for other in taken_names(program.kind_of(name), program.rows_of(name))]
    return leading(program, names)


def answer(link, tree):
    """The Names that a tree gives. Raises UnknownName, LimitExceeded."""
    # The words are looked at from left to right: the first one that is unknown is told.
    if tree[0] == "word":
        return Names(link.program, word_names(link, tree[1]))
    if tree[0] == "road":
        return Names(link.program, road_names(link, tree[1], answer(link, tree[2]).names))
    one, other = answer(link, tree[1]), answer(link, tree[2])
    if tree[0] == "&":
        return one & other
    return one | other if tree[0] == "|" else one - other


class Question:
    """What is asked of a Link; called with one, it gives the Names that are the answer."""

    def __init__(self, text):
        self._tree = read_question(text)
        self._text = tree_text(self._tree)

    @property
    def text(self):
        """The question with no more spaces and parentheses than it needs."""
        return self._text

    def __call__(self, link):
        return answer(link, self._tree)

    def __eq__(self, other):
        return isinstance(other, Question) and self._text == other._text
