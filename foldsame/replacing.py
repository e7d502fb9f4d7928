"""Replacing: other rows for a function while the program runs, and when nobody can be misled by it."""

from foldsame.checker import begins_closed, pairs_closed
from foldsame.errors import BadText, BadValue, LimitExceeded, NotFunction, NotSure, UnknownName
from foldsame.forks import Forks
from foldsame.joins import Fold, joins_of
from foldsame.machine import Steps
from foldsame.noticing import unlike_moment
from foldsame.programs import MOST_TAKEN, taken_names
from foldsame.search import Search, best_of
from foldsame.states import is_pair, is_state
from foldsame.texts import MOST_ROWS, read_instruction, split_rows, target_of
from foldsame.walking import walk_together, walk_unnoticed

OLD = ".old"


def bound_row(program, name, words, many):
    """The row of words in a function of so many rows that stands where a piece stands, or None if it breaks a rule."""
    row = read_instruction(words)
    if row is None:
        return None
    target = target_of(row)
    return None if target is not None and target > many else program.bound_row(name, row)


def new_rows(program, name, text):
    """The rows of a text for a function. Raises BadText."""
    if not isinstance(text, str):
        raise BadText(None)
    lines = split_rows(text)
    rows = []
    for number, words in enumerate(lines):
        row = bound_row(program, name, words, len(lines))
        if row is None or number == MOST_ROWS:
            raise BadText(number)
        rows.append(row)
    return tuple(rows)


class Patch:
    """A program one of whose functions has other rows; its old rows are a piece more."""

    def __init__(self, program, name, text):
        if program.kind_of(name) != "func":
            raise NotFunction(name)
        rows = new_rows(program, name, text)
        self.program = program
        self.name = name
        self.old = name + OLD
        self.entry = program.entry
        self.pieces = tuple(sorted([*program.pieces, self.old]))
        self._rows = {self.old: program.rows_of(name), name: rows}
        # The old rows are still there, so all that the program takes is still taken.
        self.taken = tuple(sorted(set([*program.taken, *taken_names("func", rows)])))
        if len(self.taken) > MOST_TAKEN:
            raise LimitExceeded(MOST_TAKEN)

    def kind_of(self, name):
        """The kind of the piece with a full name. Raises UnknownName."""
        if name not in self:
            raise UnknownName(name)
        return "func" if name in self._rows else self.program.kind_of(name)

    def rows_of(self, name):
        """The rows of the piece with a full name. Raises UnknownName."""
        if name not in self:
            raise UnknownName(name)
        return self._rows[name] if name in self._rows else self.program.rows_of(name)

    def home_of(self, name):
        """The piece to which the address of this name goes: the taken one itself."""
        return name

    def keeps(self, body, address=None):
        """Whether a body and an address are kept: a patched code leaves nothing out."""
        return True

    def __contains__(self, name):
        return isinstance(name, str) and name in self.pieces

    def __len__(self):
        return len(self.pieces)


def carry(patch, state):
    """The state of the patched code to which a state of the program is carried."""
    frames, registers = state
    return (tuple([(patch.old if name == patch.name else name, number) for name, number in frames]), registers)


def go_alike(code, one, other):
    """The least moment from which the next events of two states of a code are unlike, or None. Raises LimitExceeded."""
    return unlike_moment(code, code, one, other)


class Carried:
    """How states of a program go on in a patched code once they are carried; each two are looked at once."""

    def __init__(self, patch):
        self.patch = patch
        self._steps = Steps(patch)
        self._laters = {}

    def walk_from(self, one, other):
        """The Walk from two states, carried, and the first unlike pair or None. Raises LimitExceeded."""
        return walk_together(self._steps, self._steps, (carry(self.patch, one), carry(self.patch, other)))

    def later_moment(self, one, other):
        """The least moment that tells two states, once they are carried, or None. Raises LimitExceeded."""
        if (one, other) not in self._laters:
            walk, unlike = self.walk_from(one, other)
            self._laters[(one, other)] = None if unlike is None else walk.moments[unlike]
        return self._laters[(one, other)]

    def first_apart(self, fitting):
        """The first state that does not go like the first one, with what tells them; None if all go alike."""
        for other in fitting[1:]:
            later = self.later_moment(fitting[0], other)
            if later is not None:
                return (other, later)
        return None


def fitting_states(pairs):
    """For each state of an image the states of the program that fit it, both in the order of the pairs."""
    found = {}
    for here, there in pairs:
        found.setdefault(there, []).append(here)
    return found


def fits(program, image, state):
    """The states of the program that fit any value. Raises LimitExceeded, Noticed."""
    walk = walk_unnoticed(Steps(program), Steps(image))
    return tuple(fitting_states(walk.found).get(state, [])) if is_state(image, state) else ()


def told_apart(carried, walk, state, fitting):
    """The moments that show that not all states that fit one of the image go alike, or None. Raises LimitExceeded."""
    apart = carried.first_apart(fitting)
    if apart is None:
        return None
    other, later = apart
    return (walk.moments[(fitting[0], state)], walk.moments[(other, state)], later)


def unsure(program, image, patch):
    """The moments that show that a patch is not sure, or None. Raises LimitExceeded, Noticed."""
    walk = walk_unnoticed(Steps(program), Steps(image))
    carried = Carried(patch)
    for state, fitting in fitting_states(walk.found).items():
        found = told_apart(carried, walk, state, fitting)
        if found is not None:
            return found
    return None


def resume(program, image, patch, state):
    """The first state that fits one of the image, carried. Raises LimitExceeded, Noticed, BadValue, NotSure."""
    walk = walk_unnoticed(Steps(program), Steps(image))
    fitting = fitting_states(walk.found).get(state, []) if is_state(image, state) else []
    if not fitting:
        raise BadValue(state)
    found = told_apart(Carried(patch), walk, state, fitting)
    if found is not None:
        one, other, later = found
        raise NotSure(one, other, later)
    return carry(patch, fitting[0])


def replaceable(program, patch):
    """The folding of the smallest image for which a patch is sure. Raises LimitExceeded."""
    joins = joins_of(program)
    search = Search(joins, Forks(program, joins.bits))
    apart = Search(joins.with_alone((patch.name,)), search.forks)
    carried = Carried(patch)
    found = []
    for greatest in search.folds():
        for within, fold in ((search, greatest), (apart, Fold(apart.joins, greatest.addresses))):
            judged = within.judged(fold) if fold.legal else None
            if judged is not None and judged.noticed is None and is_sure_for(carried, within.table(fold)):
                found.append(judged)
    return best_of(found).fold.as_folding()


def is_sure_for(carried, pairs):
    """Whether all states that fit one state of an image go alike, by the pairs of its table. Raises LimitExceeded."""
    for fitting in fitting_states(pairs).values():
        # Behind the first that do not, nothing is looked at: no limit is exceeded there.
        if carried.first_apart(fitting) is not None:
            return False
    return True


def sure_paper(program, image, patch):
    """The table of an image, and pairs of states of the patched code that show that a patch is sure, or None.

    Raises LimitExceeded, Noticed.
    """
    walk = walk_unnoticed(Steps(program), Steps(image))
    carried = Carried(patch)
    pairs = {}
    for fitting in fitting_states(walk.found).values():
        for other in fitting[1:]:
            onward, unlike = carried.walk_from(fitting[0], other)
            if unlike is not None:
                return None
            for pair in onward.found:
                pairs[pair] = True
    return (list(walk.found), list(pairs))


def check_sure(program, image, patch, value):
    """Whether any value is a paper that shows that a patch is sure for an image."""
    if not is_pair(value) or not begins_closed(Steps(program), Steps(image), value[0]):
        return False
    steps = Steps(patch)
    first = [(carry(patch, fitting[0]), carry(patch, other))
             for fitting in fitting_states(value[0]).values() for other in fitting if other != fitting[0]]
    return pairs_closed(steps, steps, first, value[1])
