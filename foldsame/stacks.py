"""Stacks: for which stacks of the program a stack of an image may stand."""

from foldsame.errors import BadValue, UnknownName
from foldsame.forks import Folded, Forks, Joined
from foldsame.forms import pairs_of
from foldsame.joins import Fold, joins_of
from foldsame.likeness import is_partition
from foldsame.machine import Steps
from foldsame.sizes import size_of, used_from
from foldsame.states import are_frames
from foldsame.walking import walk_alone, walk_unnoticed


class Stacks:
    """The stacks of a program and an image at each event, with the moment ahead. Raises LimitExceeded, Noticed."""

    def __init__(self, one, other):
        walk = walk_unnoticed(one, other)
        self.rows = [(walk.moments[pair], one.run_from(pair[0]).frames, other.run_from(pair[1]).frames)
                     for pair in walk.found]

    def first_split(self, told):
        """The moments of the first stack of the image that is met with unlike stacks of the program, or None.

        What told gives for a stack of the program is what has to be alike.
        """
        firsts = {}
        for moment, source, stack in self.rows:
            ahead, wanted = firsts.setdefault(stack, (moment, told(source)))
            if told(source) != wanted:
                return (ahead, moment)
        return None

    def first_moved(self, name):
        """The same, where only the places of the frames of a piece have to be alike."""
        return self.first_split(lambda source: places_of(source, name))


def places_of(stack, name):
    """The places in a stack of the frames of a piece."""
    return tuple([place for place, frame in enumerate(stack) if frame[0] == name])


def sources(program, image, stack):
    """The stacks for which any value may stand, each with the least moment. Raises LimitExceeded, Noticed."""
    found = {}
    rows = Stacks(Steps(program), Steps(image)).rows
    if are_frames(image, stack):
        for moment, source, its in rows:
            if its == stack:
                found.setdefault(source, moment)
    return tuple(found.items())


def unique(program, image):
    """Two moments at which one stack stands for two stacks, or None. Raises LimitExceeded, Noticed."""
    return Stacks(Steps(program), Steps(image)).first_split(lambda source: source)


def tells(program, image, name):
    """Two moments at which one stack stands for frames of a piece at unlike places, or None.

    Raises LimitExceeded, Noticed, UnknownName.
    """
    stacks = Stacks(Steps(program), Steps(image))
    if name not in program:
        raise UnknownName(name)
    return stacks.first_moved(name)


def alone_choices(pieces):
    """All rows of at most two pieces: fewer first, then ascending."""
    return [(), *[(name,) for name in pieces], *pairs_of(pieces)]


def telling(program, addresses, names):
    """The first folding of the least size, with so few pieces alone, that tells the places of all names, or None.

    Raises BadValue, LimitExceeded, Noticed.
    """
    if not is_partition(program.taken, addresses):
        raise BadValue(addresses)
    if not isinstance(names, tuple) or not all([name in program for name in names]):
        raise BadValue(names)
    joins = joins_of(program)
    forks = Forks(program, joins.bits)
    told = {}
    for alone in alone_choices(program.pieces):
        fold = Fold(joins.with_alone(alone), addresses)
        if fold.legal and fold.parted() not in told:
            told[fold.parted()] = (size_telling(forks, fold, names), fold)
    fitting = [one for one in told.values() if one[0] is not None]
    least = min([size for size, _ in fitting], default=None)
    best = [fold for size, fold in fitting if size == least]
    return best[0].as_folding() if best else None


def size_telling(forks, fold, names):
    """The size of the image of a Fold if it tells the places of all names, or None. Raises LimitExceeded, Noticed."""
    steps = Folded(forks, fold)
    stacks = Stacks(Joined(forks, 0), steps)
    if any([stacks.first_moved(name) is not None for name in names]):
        return None
    return size_of(fold, used_from(steps, walk_alone(steps).found))
