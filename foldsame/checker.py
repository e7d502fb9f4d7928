"""A checker for papers of any author: it goes from a state to its next event alone, and finds likeness by itself."""

from foldsame.foldings import partitions
from foldsame.forms import in_order
from foldsame.forks import Forks, Joined, named_uses
from foldsame.images import Image
from foldsame.joins import Fold, joins_of
from foldsame.likeness import is_partition, path_end, within_parts
from foldsame.machine import Steps, begin, passed
from foldsame.sizes import size_of, used_from
from foldsame.states import is_pair, is_state


def pairs_closed(one, other, first, value):
    """What check_together tells, by the Steps of two codes."""
    if not isinstance(value, list) or not all([is_pair(pair) for pair in value]):
        return False
    if not all([is_state(one.code, here) and is_state(other.code, there) for here, there in value]):
        return False
    known = {pair: True for pair in value}
    if not all([pair in known for pair in first]):
        return False
    for here, there in value:
        run, companion = one.run_from(here), other.run_from(there)
        if run.event != companion.event:
            return False
        if not all([pair in known for pair in zip(run.followers, companion.followers)]):
            return False
    return True


def begins_closed(one, other, value):
    """What check_table tells, by the Steps of the program and the image."""
    return pairs_closed(one, other, [(begin(one.code), begin(other.code))], value)


def check_together(one, other, first, value):
    """Whether any value is a list of pairs of states that has all first ones and all that follow, and no unlike one."""
    return pairs_closed(Steps(one), Steps(other), first, value)


def check_table(program, image, value):
    """Whether any value is such a list for the beginnings of a program and an image."""
    return begins_closed(Steps(program), Steps(image), value)


def moment_right(one, other, value):
    """What check_moment tells, by the Steps of the program and the image."""
    here, there = passed(one, value), passed(other, value)
    if here is None or there is None or here[0] != there[0]:
        return False
    return one.run_from(here[1]).event != other.run_from(there[1]).event


def check_moment(program, image, value):
    """Whether any value is a moment of both up to which all events are alike, and behind which the next are not."""
    return moment_right(Steps(program), Steps(image), value)


def moments_used(steps, value):
    """What a code uses from a list of moments to the next events, with the entry; None if any value is none."""
    if not isinstance(value, list):
        return None
    found = [passed(steps, moment) for moment in value]
    if any([one is None for one in found]):
        return None
    return used_from(steps, [state for _, state in found])


def check_size(image, value, least):
    """Whether any value is a list of moments from which an image uses what has at least this size."""
    used = moments_used(Steps(image), value)
    return used is not None and size_of(image, used) >= least


class Entries:
    """The entries of a paper, while they are looked at: the partition of each is a Fold of the program."""

    def __init__(self, program):
        self.program = program
        self.joins = joins_of(program)
        self.forks = Forks(program, self.joins.bits)

    def steps_of(self, fold):
        """What the program does where the addresses of a Fold are joined."""
        return Joined(self.forks, fold.joined)

    def apart_right(self, fold, pair, path):
        """Whether any values are two pieces of one address and a path that shows them unlike."""
        if not is_pair(pair) or not all([name in self.program for name in pair]):
            return False
        if not within_parts(fold.addresses, pair):
            return False
        end = path_end(self.program, pair, path)
        return end is not None and end[0] != end[1] and self.joins.differ_at_once(fold.joined, in_order(*end))

    def noticed_right(self, fold, value):
        """Whether any value is a moment at which the image of a legal Fold is noticed."""
        return moment_right(Joined(self.forks, 0), self.steps_of(fold), value)

    def large_right(self, fold, value, least):
        """Whether any value is a list of moments from which the image uses what has at least this size."""
        used = moments_used(self.steps_of(fold), value)
        return used is not None and size_of(fold, named_uses(fold, used)) >= least

    def right(self, addresses, least, entry):
        """Whether any value is a right entry for addresses, where an image of at least this size is large."""
        if not isinstance(entry, tuple) or len(entry) == 0 or not isinstance(entry[0], str):
            return False
        fold = Fold(self.joins, addresses)
        if entry[0] == "apart":
            return len(entry) == 3 and self.apart_right(fold, entry[1], entry[2])
        if not fold.legal or len(entry) != 2:
            return False
        if entry[0] == "noticed":
            return self.noticed_right(fold, entry[1])
        return entry[0] == "large" and self.large_right(fold, entry[1], least)

    def all_right(self, addresses, least, entries):
        """Whether any value is a list of right entries for all other partitions, in order."""
        wanted = partitions(self.program.taken)
        place = wanted.index(addresses)
        if not isinstance(entries, list) or len(entries) != len(wanted) - 1:
            return False
        # Of equal sizes the first image is the smallest: one that stands ahead has to be larger.
        ahead = [self.right(other, least + 1, entry) for other, entry in zip(wanted[:place], entries)]
        behind = [self.right(other, least, entry) for other, entry in zip(wanted[place + 1:], entries[place:])]
        return all(ahead) and all(behind)


def check_smallest(program, value):
    """Whether any value is a paper that shows the smallest image of a program."""
    if not isinstance(value, tuple) or len(value) != 3 or not is_partition(program.taken, value[0]):
        return False
    addresses, pairs, rest = value
    entries = Entries(program)
    fold = Fold(entries.joins, addresses)
    if not fold.legal:
        return False
    image = Image(fold.as_folding())
    steps = Steps(image)
    if not begins_closed(Joined(entries.forks, 0), steps, pairs):
        return False
    least = size_of(image, used_from(steps, [there for _, there in pairs]))
    return entries.all_right(addresses, least, rest)
