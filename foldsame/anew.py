"""Links anew: what a change touches, and links that keep what an older one found."""

from foldsame.checker import moment_right
from foldsame.errors import UnknownName
from foldsame.forms import pairs_of
from foldsame.forks import Joined
from foldsame.images import Image
from foldsame.likeness import Likeness, check_given
from foldsame.programs import name_place, taken_names
from foldsame.search import Judged, best_of, search_of
from foldsame.smallest import paper_of


def named_pieces(program, name):
    """The pieces that a piece calls or reads by name."""
    if program.kind_of(name) != "func":
        return []
    return [row[name_place(row)] for row in program.rows_of(name) if row[0] in ("call", "read")]


def leading(program, names):
    """The ascending pieces that lead to one of some full names. Raises UnknownName."""
    for name in names:
        if name not in program:
            raise UnknownName(name)
    found = {name: True for name in names}
    grown = True
    while grown:
        onward = [name for name in program.pieces if name not in found
                  and any([other in found for other in named_pieces(program, name)])]
        for name in onward:
            found[name] = True
        grown = len(onward) > 0
    return tuple(sorted(found))


def mates_of(addresses, name):
    """The pieces of one address with a taken one."""
    return [part for part in addresses if name in part]


def is_changed(old, program, addresses, alone, name):
    """Whether a piece is touched by itself, between an old Likeness and what a new one is made of."""
    if name not in old.program or old.program.kind_of(name) != program.kind_of(name):
        return True
    rows = program.rows_of(name)
    if old.program.rows_of(name) != rows or (name in old.alone) != (name in alone):
        return True
    taken = taken_names(program.kind_of(name), rows)
    return any([mates_of(old.addresses, other) != mates_of(addresses, other) for other in taken])


class Anew(Likeness):
    """A Likeness that is made from an old one: what no change touches is as it was."""

    def __init__(self, old, program, addresses, *, alone=()):
        check_given(program, addresses, alone)
        changed = [name for name in program.pieces if is_changed(old, program, addresses, alone, name)]
        self.touched = leading(program, changed)
        same = [name for name in program.pieces if name not in self.touched]
        self.fill(program, addresses, alone, {pair: old.path(*pair) for pair in pairs_of(same)})


def is_still_noticed(search, fold, moment):
    """Whether a moment shows that the image of a Fold is noticed."""
    return fold.legal and moment_right(search.steps, Joined(search.forks, fold.joined), moment)


def copied_entry(entry):
    """An entry of a paper, with a new list of moments if it has one."""
    return ("large", list(entry[1])) if entry[0] == "large" else entry


class Link:
    """The smallest image of a program, with a paper; made from an old Link, it keeps the moments that still hold."""

    def __init__(self, program, *, old=None):
        search = search_of(program)
        folds = search.folds()
        known = {} if old is None else old.noticed
        held = {fold.addresses: known[fold.addresses] for fold in folds if fold.addresses in known
                and is_still_noticed(search, fold, known[fold.addresses])}
        judged = [judged_anew(search, fold, held) if fold.legal else None for fold in folds]
        best = best_of([one for one in judged if one is not None])
        self.program = program
        self.folding = best.fold.as_folding()
        self.image = Image(self.folding)
        self.size = best.many
        self.kept = tuple(held)
        self.noticed = {one.fold.addresses: one.noticed for one in judged
                        if one is not None and one.noticed is not None}
        self._paper = paper_of(search, folds, judged)

    @property
    def certificate(self):
        """The paper, with new lists each time."""
        addresses, pairs, entries = self._paper
        return (addresses, list(pairs), [copied_entry(entry) for entry in entries])


def judged_anew(search, fold, held):
    """A legal Fold as Judged, by the moment that is held for it if there is one. Raises LimitExceeded."""
    if fold.addresses in held:
        return Judged(fold, held[fold.addresses], None, [])
    return search.judged(fold)
