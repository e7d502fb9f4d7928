"""What is needed: when runs use what, and codes from which something is left out."""

from foldsame.errors import BadValue
from foldsame.machine import Steps, begin
from foldsame.noticing import uses
from foldsame.states import is_state
from foldsame.walking import walk_alone


def use_moments(code):
    """The least moment behind which each body and address is used that some run uses. Raises LimitExceeded."""
    steps = Steps(code)
    walk = walk_alone(steps)
    bodies = {code.entry: walk.moments[begin(code)]}
    addresses = {}
    for state in walk.found:
        run = steps.run_from(state)
        for name in run.bodies:
            bodies.setdefault(name, walk.moments[state])
        for name in run.addresses:
            addresses.setdefault(name, walk.moments[state])
    return (tuple(sorted(bodies.items())), tuple(sorted(addresses.items())))


def states(code):
    """The list of the states in which runs begin or are right behind an event. Raises LimitExceeded."""
    return list(walk_alone(Steps(code)).found)


def states_closed(steps, value):
    """What check_states tells, by the Steps of a code."""
    if not isinstance(value, list) or not all([is_state(steps.code, state) for state in value]):
        return False
    known = {state: True for state in value}
    if begin(steps.code) not in known:
        return False
    return all([follower in known for state in value for follower in steps.run_from(state).followers])


def check_states(code, value):
    """Whether any value is a list of states that has the first one, and with each state those that follow it."""
    return states_closed(Steps(code), value)


def check_unused(code, value, name, *, address=False):
    """Whether any value is such a list, and from no state of it the body, or the address, of any name is used."""
    steps = Steps(code)
    if not states_closed(steps, value):
        return False
    if not isinstance(name, str):
        return True
    runs = [steps.run_from(state) for state in value]
    if address:
        return not any([name in run.addresses for run in runs])
    return name != code.entry and not any([name in run.bodies for run in runs])


def are_bodies(code, value):
    """Whether any value is a tuple of bodies of a code, with the entry."""
    return isinstance(value, tuple) and all([name in code for name in value]) and code.entry in value


def are_addresses(code, value):
    """Whether any value is a tuple of names of addresses of a code."""
    if not isinstance(value, tuple):
        return False
    return all([isinstance(name, str) and name in code.taken for name in value])


class Stripped:
    """A code that keeps some bodies and addresses of another one; a run that uses another of these ends."""

    def __init__(self, code, bodies, addresses):
        if not are_bodies(code, bodies):
            raise BadValue(bodies)
        if not are_addresses(code, addresses):
            raise BadValue(addresses)
        self.bodies = bodies
        self.addresses = addresses
        self.entry = code.entry
        # An address that is left out may still be held and compared.
        self.taken = code.taken
        self._code = code

    def keeps(self, body, address=None):
        """Whether a body and, if it is not None, an address are kept."""
        if body not in self.bodies or not self._code.keeps(body, address):
            return False
        return address is None or address in self.addresses

    def kind_of(self, name):
        """The kind of a body of the whole code. Raises UnknownName."""
        return self._code.kind_of(name)

    def rows_of(self, name):
        """The rows of a body of the whole code. Raises UnknownName."""
        return self._code.rows_of(name)

    def home_of(self, name):
        """The body to which an address goes. Raises UnknownName."""
        return self._code.home_of(name)

    def __contains__(self, name):
        return name in self._code


def stripped(code):
    """The code with all that some run uses, and nothing else. Raises LimitExceeded."""
    bodies, addresses = uses(code)
    return Stripped(code, bodies, addresses)
