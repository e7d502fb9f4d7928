"""The search for the smallest image: what becomes of each partition of the taken pieces into addresses."""

from foldsame.errors import LimitExceeded
from foldsame.foldings import partitions
from foldsame.forks import Folded, Forks, Joined, named_uses
from foldsame.forms import pairs_of
from foldsame.joins import Fold, joins_of
from foldsame.sizes import size_of
from foldsame.walking import begin_both, walk_alone, walk_together


class Using:
    """What is used, beside the entry's body, and the rows, each a moment with what is used behind it, that use more."""

    def __init__(self, entry, rows):
        self.bodies = {entry: True}
        self.addresses = {}
        self.rows = []
        for row in rows:
            if self.adds(row):
                self.rows.append(row)

    def adds(self, row):
        """Takes what a row uses; whether not all of it was used ahead."""
        bodies, addresses = row[1]
        before = len(self.bodies) + len(self.addresses)
        for name in bodies:
            self.bodies[name] = True
        for name in addresses:
            self.addresses[name] = True
        return len(self.bodies) + len(self.addresses) > before


def using_of(steps):
    """The Using of all runs of a code. Raises LimitExceeded."""
    walk = walk_alone(steps)
    runs = [(walk.moments[state], steps.run_from(state)) for state in walk.found]
    return Using(steps.code.entry, [(moment, (run.bodies, run.addresses)) for moment, run in runs])


class Judged:
    """A Fold, with the least moment at which its image is noticed, or otherwise the size and the moments to show it."""

    def __init__(self, fold, noticed, many, moments):
        self.fold = fold
        self.noticed = noticed
        self.many = many
        self.moments = moments


def judged_using(fold, using):
    """A Fold that is not noticed as Judged, by what its image uses."""
    return Judged(fold, None, size_of(fold, (using.bodies, using.addresses)), [moment for moment, _ in using.rows])


class Way:
    """What a program does where its addresses are joined in some way, beside the program itself.

    The bits of asked are those of the addresses that it compares: ways that join alike ones of them do the same.
    Raises LimitExceeded.
    """

    def __init__(self, joins, forks, joined):
        steps = Joined(forks, joined)
        walk, unlike = walk_together(Joined(forks, 0), steps, begin_both(joins.program, joins.program))
        compared = {pair: True for _, state in walk.found for pair in steps.run_from(state).compared}
        self.asked = sum([joins.bits[pair] for pair in compared])
        self.joined_asked = joined & self.asked
        self.pairs = walk.found
        self.noticed = None if unlike is None else walk.moments[unlike]
        self._using = using_of(steps) if unlike is None else None
        used = [] if unlike is not None else [joins.bits[pair] for pair in pairs_of(sorted(self._using.addresses))]
        self._telling = joins.asked | sum(used)
        self._judged = {}

    def judged(self, fold):
        """A legal Fold that joins addresses in this way as Judged."""
        if self.noticed is not None:
            return Judged(fold, self.noticed, None, [])
        told = fold.joined & self._telling
        if told not in self._judged:
            rows = [(moment, named_uses(fold, used)) for moment, used in self._using.rows]
            self._judged[told] = judged_using(fold, Using(fold.entry, rows))
        like = self._judged[told]
        return Judged(fold, None, like.many, like.moments)


class Search:
    """What the foldings of a program share while they are looked at. Raises LimitExceeded."""

    def __init__(self, joins, forks):
        self.program = joins.program
        self.joins = joins
        self.forks = forks
        self.steps = Joined(forks, 0)
        self._ways = []
        # The image in which all is apart runs as the program does: what exceeds the limit here does so there.
        walk_alone(self.steps)

    def folds(self):
        """The Folds of all partitions of the taken pieces into addresses, in order."""
        return [Fold(self.joins, addresses) for addresses in partitions(self.program.taken)]

    def way_of(self, fold):
        """The Way in which a Fold joins addresses, or None if it goes too far."""
        for way in self._ways:
            if fold.joined & way.asked == way.joined_asked:
                return way
        try:
            self._ways.append(Way(self.joins, self.forks, fold.joined))
        except LimitExceeded:
            return None
        return self._ways[-1]

    def judged(self, fold):
        """A legal Fold as Judged. Raises LimitExceeded."""
        way = self.way_of(fold)
        if way is not None:
            return way.judged(fold)
        # Where states have addresses of one class the image has fewer: it may stay within the limit.
        walk, unlike = self.walk_of(fold)
        if unlike is not None:
            return Judged(fold, walk.moments[unlike], None, [])
        return judged_using(fold, using_of(Folded(self.forks, fold)))

    def walk_of(self, fold):
        """The Walk of the program and the image of a Fold, and the first unlike pair or None. Raises LimitExceeded."""
        return walk_together(self.steps, Folded(self.forks, fold), begin_both(self.program, fold))

    def table(self, fold):
        """The pairs of states of the program and the image of a Fold that is not noticed. Raises LimitExceeded."""
        way = self.way_of(fold)
        if way is None:
            return list(self.walk_of(fold)[0].found)
        pairs = [(here, fold.state_named(there)) for here, there in way.pairs]
        return list({pair: True for pair in pairs})


def search_of(program):
    """The Search over the greatest bodies. Raises LimitExceeded."""
    joins = joins_of(program)
    return Search(joins, Forks(program, joins.bits))


def best_of(judged):
    """The first one of the least size among those that are not noticed."""
    unnoticed = [one for one in judged if one.noticed is None]
    least = min([one.many for one in unnoticed])
    return [one for one in unnoticed if one.many == least][0]
