"""Forks: what the images of all foldings of a program do, by runs of the program whose addresses count as one.

The pieces of a body agree, so the image of a legal folding does what the program does where the addresses that
are joined are equal. A run to the next event that compares none of these is the same for all foldings.
"""

from foldsame.machine import advance, begin


class Forks:
    """What a program does from its states to their next events, for each way to join its addresses."""

    def __init__(self, program, bits):
        self.program = program
        self.bits = bits
        self._runs = {}

    def run_from(self, state, joined):
        """The Run from a state where the addresses of these bits count as one; each that is unlike is made once."""
        known = self._runs.setdefault(state, [])
        for asked, told, run in known:
            if joined & asked == told:
                return run
        pairs = [pair for pair in self.bits if self.bits[pair] & joined]
        run = advance(self.program, state, pairs)
        asked = sum([self.bits[pair] for pair in run.compared])
        known.append((asked, joined & asked, run))
        return run


class Joined:
    """The Forks of a program for one way to join its addresses; its states are the program's."""

    def __init__(self, forks, joined):
        self.code = forks.program
        self._forks = forks
        self._joined = joined

    def run_from(self, state):
        """The Run from a state."""
        return self._forks.run_from(state, self._joined)


class Onward:
    """What an image does from a state: its next event, with the frames, the states behind it, and what it uses."""

    def __init__(self, event, frames, followers, bodies, addresses):
        self.event = event
        self.frames = frames
        self.followers = followers
        self.bodies = bodies
        self.addresses = addresses


class Folded:
    """What the image of a Fold does, from state to state as the image names them."""

    def __init__(self, forks, fold):
        self.code = fold
        self._joined = Joined(forks, fold.joined)
        self._behind = {}
        self._states = {}
        self.note(begin(forks.program))

    def note(self, state):
        """The state of the image for one of the program; the first one that it stands for goes on for it."""
        named = self.code.state_named(state)
        self._states.setdefault(named, state)
        return named

    def run_from(self, state):
        """The Onward from a state that is the first one or was told behind another one."""
        if state not in self._behind:
            run = self._joined.run_from(self._states[state])
            followers = [self.note(follower) for follower in run.followers]
            bodies, addresses = named_uses(self.code, (run.bodies, run.addresses))
            frames = self.code.stack_named(run.frames)
            self._behind[state] = Onward(run.event, frames, followers, bodies, addresses)
        return self._behind[state]


def named_uses(fold, used):
    """The ascending bodies and addresses of a Fold that are used where the program uses these."""
    bodies, addresses = used
    return (sorted(set([fold.firsts[name] for name in bodies])), sorted(set([fold.homes[name] for name in addresses])))
