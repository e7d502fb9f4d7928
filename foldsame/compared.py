"""What runs of a program compare, and foldings that are sure because of it."""

from foldsame.errors import UnknownName
from foldsame.foldings import foldings
from foldsame.forms import in_order
from foldsame.machine import Steps
from foldsame.walking import walk_alone


def first_moments(program):
    """For each pair of compared pieces the least moment behind which they are. Raises LimitExceeded."""
    steps = Steps(program)
    walk = walk_alone(steps)
    moments = {}
    for state in walk.found:
        for pair in steps.run_from(state).compared:
            moments.setdefault(pair, walk.moments[state])
    return moments


def compared(program):
    """The ascending pairs of pieces whose addresses some run compares. Raises LimitExceeded."""
    return tuple(sorted(first_moments(program)))


def compare_moment(program, one, other):
    """The least moment between which and the next event two taken pieces are compared, or None.

    Raises UnknownName, LimitExceeded.
    """
    for name in (one, other):
        if not isinstance(name, str) or name not in program.taken:
            raise UnknownName(name)
    return first_moments(program).get(in_order(one, other))


def parts_sure(addresses, pairs):
    """Whether no address holds both pieces of a pair."""
    return not any([one in part and other in part for part in addresses for one, other in pairs])


def is_sure(folding):
    """Whether no address of a folding holds two compared pieces. Raises LimitExceeded."""
    return parts_sure(folding.addresses, compared(folding.program))


def fewest(program):
    """The first sure one among the legal foldings with the greatest bodies. Raises LimitExceeded."""
    pairs = compared(program)
    # The last one, with all addresses apart, is sure: there always is one.
    return [folding for folding in foldings(program) if parts_sure(folding.addresses, pairs)][0]
