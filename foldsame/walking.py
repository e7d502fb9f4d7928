"""Walking: all that runs reach, from event to event, with the least moments at which they do."""

from foldsame.errors import LimitExceeded, Noticed
from foldsame.machine import begin

MOST_REACHED = 200


class Walk:
    """What runs reach from a start, by how many events lead to it, then in the order in which it follows."""

    def __init__(self, start):
        self.found = [start]
        self.moments = {start: ((), 0)}

    def follow(self, ahead, followers):
        """Notes what follows by an event something that is found: for an asking, for 0 and 1."""
        choices, number = self.moments[ahead]
        for choice, follower in enumerate(followers):
            if follower not in self.moments:
                made = (*choices, choice) if len(followers) == 2 else choices
                self.moments[follower] = (made, number + 1)
                self.found.append(follower)

    def check_limit(self):
        """Raises LimitExceeded if too much is found."""
        if len(self.found) > MOST_REACHED:
            raise LimitExceeded(MOST_REACHED)


def walk_alone(steps):
    """The Walk over the states of all runs of a code. Raises LimitExceeded."""
    walk = Walk(begin(steps.code))
    looked = 0
    while looked < len(walk.found):
        state = walk.found[looked]
        walk.follow(state, steps.run_from(state).followers)
        walk.check_limit()
        looked += 1
    return walk


def walk_together(one, other, start):
    """The Walk of two codes from a pair of states, and the first unlike pair or None. Raises LimitExceeded."""
    walk = Walk(start)
    looked = 0
    while looked < len(walk.found):
        # All to which one number of events leads are looked at before the limit is.
        level = walk.found[looked:]
        looked = len(walk.found)
        for pair in level:
            here, there = one.run_from(pair[0]), other.run_from(pair[1])
            if here.event != there.event:
                return (walk, pair)
        for pair in level:
            here, there = one.run_from(pair[0]), other.run_from(pair[1])
            walk.follow(pair, list(zip(here.followers, there.followers)))
        walk.check_limit()
    return (walk, None)


def begin_both(one, other):
    """The pair of the first states of two codes."""
    return (begin(one), begin(other))


def walk_unnoticed(one, other):
    """The Walk of a program and an image from their beginnings. Raises LimitExceeded, Noticed."""
    walk, unlike = walk_together(one, other, begin_both(one.code, other.code))
    if unlike is not None:
        raise Noticed(walk.moments[unlike])
    return walk
