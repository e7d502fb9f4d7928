"""The search for the smallest image: what becomes of each partition of the taken pieces into addresses."""

from foldsame.foldings import partitions
from foldsame.forms import pairs_of
from foldsame.forks import Folded, Forks, Joined, named_uses
from foldsame.joins import Fold, joins_of
from foldsame.sizes import size_of
from foldsame.walking import begin_both, walk_alone, walk_together


class Using:
    """What is used, beside the entry's body, and the rows, each a moment with what is used behind it, that use more."""

    def __init__(self, entry, rows):
        self.bodies = {entry: True}
        self.addresses = {}
        self.rows = []
        for row in rows:
            if self.adds(row):
                self.rows.append(row)

    def adds(self, row):
        """Takes what a row uses; whether not all of it was used ahead."""
        bodies, addresses = row[1]
        before = len(self.bodies) + len(self.addresses)
        for name in bodies:
            self.bodies[name] = True
        for name in addresses:
            self.addresses[name] = True
        return len(self.bodies) + len(self.addresses) > before


def using_of(steps, walk):
    """The Using of all states of a Walk."""
    runs = [(walk.moments[state], steps.run_from(state)) for state in walk.found]
    return Using(steps.code.entry, [(moment, (run.bodies, run.addresses)) for moment, run in runs])


class Judged:
    """A Fold, with the least moment at which its image is noticed, or otherwise the size and the moments to show it."""

    def __init__(self, fold, noticed, many, moments):
        self.fold = fold
        self.noticed = noticed
        self.many = many
        self.moments = moments


class Search:
    """What the foldings of a program share while they are looked at. Raises LimitExceeded."""

    def __init__(self, joins, forks):
        self.program = joins.program
        self.joins = joins
        self.forks = forks
        self.steps = Joined(self.forks, 0)
        # The image in which all is apart runs as the program does: what exceeds the limit here does so there.
        self.walk = walk_alone(self.steps)
        self.compared = {pair: True for state in self.walk.found for pair in self.steps.run_from(state).compared}
        self._using = using_of(self.steps, self.walk)
        used = [self.joins.bits[pair] for pair in pairs_of(sorted(self._using.addresses))]
        self._telling = self.joins.asked | sum(used)
        self._sized = {}

    def folds(self):
        """The Folds of all partitions of the taken pieces into addresses, in order."""
        return [Fold(self.joins, addresses) for addresses in partitions(self.program.taken)]

    def is_sure(self, fold):
        """Whether a Fold joins no addresses that the program compares: then its image is never noticed."""
        return not any([self.joins.bits[pair] & fold.joined for pair in self.compared])

    def judged(self, fold):
        """A legal Fold as Judged. Raises LimitExceeded."""
        if self.is_sure(fold):
            return self.judged_sure(fold)
        folded = Folded(self.forks, fold)
        walk, unlike = walk_together(self.steps, folded, begin_both(self.program, fold))
        if unlike is not None:
            return Judged(fold, walk.moments[unlike], None, [])
        return sized(fold, using_of(folded, walk_alone(folded)))

    def judged_sure(self, fold):
        """A sure legal Fold as Judged."""
        told = fold.joined & self._telling
        if told not in self._sized:
            rows = [(moment, named_uses(fold, used)) for moment, used in self._using.rows]
            self._sized[told] = sized(fold, Using(fold.entry, rows))
        like = self._sized[told]
        return Judged(fold, None, like.many, like.moments)

    def table(self, fold):
        """The pairs of states of the program and the image of a Fold that is not noticed. Raises LimitExceeded."""
        if self.is_sure(fold):
            return [(state, fold.state_named(state)) for state in self.walk.found]
        walk, _ = walk_together(self.steps, Folded(self.forks, fold), begin_both(self.program, fold))
        return list(walk.found)


def search_of(program):
    """The Search over the greatest bodies. Raises LimitExceeded."""
    joins = joins_of(program)
    return Search(joins, Forks(program, joins.bits))


def sized(fold, using):
    """A Fold that is not noticed as Judged, by what its image uses."""
    return Judged(fold, None, size_of(fold, (using.bodies, using.addresses)), [moment for moment, _ in using.rows])


def best_of(judged):
    """The first one of the least size among those that are not noticed."""
    unnoticed = [one for one in judged if one.noticed is None]
    least = min([one.many for one in unnoticed])
    return [one for one in unnoticed if one.many == least][0]
