"""The smallest image of a program, with a paper that shows that it is."""

from foldsame.foldings import foldings, partitions
from foldsame.forms import pairs_of
from foldsame.images import Image
from foldsame.likeness import Likeness
from foldsame.machine import Steps
from foldsame.noticing import table
from foldsame.sizes import size_from, used_from
from foldsame.walking import begin_both, walk_alone, walk_together


class Candidate:
    """A legal folding: the least moment at which its image is noticed, or otherwise the size, with what shows it."""

    def __init__(self, folding, program_steps):
        image = Image(folding)
        steps = Steps(image)
        self.folding = folding
        walk, unlike = walk_together(program_steps, steps, begin_both(folding.program, image))
        self.noticed = None if unlike is None else walk.moments[unlike]
        self.many = None
        self.moments = []
        if unlike is None:
            alone = walk_alone(steps)
            self.many = size_from(steps, alone.found)
            self.moments = [alone.moments[state] for state in using_states(steps, alone.found)]


def using_states(steps, states):
    """Those of some states from which a code uses what it does not use from those ahead."""
    kept = []
    for state in states:
        if used_from(steps, [*kept, state]) != used_from(steps, kept):
            kept.append(state)
    return kept


def candidates_of(program):
    """The Candidates of a program, in order. Raises LimitExceeded."""
    steps = Steps(program)
    legal = list(foldings(program))
    return [Candidate(folding, steps) for folding in legal]


def best_of(candidates):
    """The first one of the least size among those that are not noticed."""
    unnoticed = [one for one in candidates if one.noticed is None]
    least = min([one.many for one in unnoticed])
    return [one for one in unnoticed if one.many == least][0]


def smallest(program):
    """The folding of the smallest image of a program. Raises LimitExceeded."""
    return best_of(candidates_of(program)).folding


def apart_entry(program, addresses):
    """The entry for addresses that no legal folding has: two unlike pieces of one of them, with a path."""
    likeness = Likeness(program, addresses)
    pairs = [pair for part in addresses for pair in pairs_of(part)]
    one, other = [pair for pair in pairs if pair not in likeness][0]
    return ("apart", (one, other), likeness.path(one, other))


def entry_of(program, addresses, candidate):
    """The entry of a partition whose image, if there is one, is not the smallest."""
    if candidate is None:
        return apart_entry(program, addresses)
    if candidate.noticed is not None:
        return ("noticed", candidate.noticed)
    return ("large", candidate.moments)


def smallest_paper(program):
    """The addresses and the table of the smallest image, and an entry for all others. Raises LimitExceeded."""
    candidates = candidates_of(program)
    best = best_of(candidates).folding
    by_addresses = {one.folding.addresses: one for one in candidates}
    others = [addresses for addresses in partitions(program.taken) if addresses != best.addresses]
    entries = [entry_of(program, addresses, by_addresses.get(addresses)) for addresses in others]
    return (best.addresses, table(program, Image(best)), entries)
