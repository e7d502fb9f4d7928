"""The machine: what the runs of a code do, from event to event.

A code has an entry; bodies, with kind_of and rows_of; and addresses, each with
the body to which it goes, home_of; keeps tells which of both are not left out.
All else that a code is does not matter here.
"""

from foldsame.errors import BadValue
from foldsame.forms import in_order
from foldsame.texts import REGISTERS, is_integer

MOST_FRAMES = 4
MOST_SILENT = 60
MOST_EVENTS = 200
LONGEST_RECORD = 100


def address_of(name):
    """The address of this name, as a value."""
    return ("at", name)


def is_address(value):
    """Whether a value of a register is an address."""
    return isinstance(value, tuple)


def word_value(word):
    """A word of data as a value."""
    return address_of(word) if isinstance(word, str) else word


def home_at(code, value, kind):
    """The body of this kind to which an address goes, or None if the value is no such address."""
    if not is_address(value):
        return None
    home = code.home_of(value[1])
    return home if code.kind_of(home) == kind else None


class Run:
    """A run from a state to its next event, with what it uses and compares on its way.

    The pairs of names in joined are addresses that count as one where they are compared.
    """

    def __init__(self, code, state, joined):
        self.code = code
        self.joined = joined
        self.frames = state[0]
        self.below = state[0][:-1]
        self.name, self.number = state[0][-1]
        self.registers = list(state[1])
        self.event = None
        self.followers = []
        self.bodies = {}
        self.addresses = {}
        self.compared = {}

    def stack(self):
        """The frames as they are now."""
        return (*self.below, (self.name, self.number))

    def value_of(self, letter):
        """The value of a register."""
        return self.registers[REGISTERS.index(letter)]

    def put(self, letter, value):
        """Puts a value into a register and goes on."""
        self.registers[REGISTERS.index(letter)] = value
        self.number += 1

    def go_to(self, number):
        """Goes on at the instruction of this number."""
        self.number = number

    def use(self, body, address=None):
        """Uses a body, through an address or not, or ends the run if one of them is left out; whether it goes on."""
        if not self.code.keeps(body, address):
            self.end("missing")
            return False
        self.bodies[body] = True
        if address is not None:
            self.addresses[address] = True
        return True

    def push(self, body, address=None):
        """Puts a frame of a body on top, if there is room."""
        if len(self.below) + 1 == MOST_FRAMES:
            self.end("deep")
        elif self.use(body, address):
            self.below = (*self.below, (self.name, self.number + 1))
            self.name = body
            self.number = 0

    def end(self, word):
        """Ends the run."""
        self.event = ("ended", word)

    def meet(self, event, numbers):
        """Makes an event; behind it, one of these numbers is that of the next instruction."""
        self.event = event
        registers = tuple(self.registers)
        self.followers = [((*self.below, (self.name, number)), registers) for number in numbers]


def do_call(run, row):
    """call NAME"""
    run.push(row[1])


def do_callr(run, row):
    """callr R"""
    value = run.value_of(row[1])
    home = home_at(run.code, value, "func")
    if home is None:
        run.end("fault")
    else:
        run.push(home, value[1])


def do_ret(run, _):
    """ret"""
    if run.below:
        run.name, run.number = run.below[-1]
        run.below = run.below[:-1]
    else:
        run.end("done")


def do_addr(run, row):
    """addr R NAME"""
    run.put(row[1], address_of(row[2]))


def do_set(run, row):
    """set R N"""
    run.put(row[1], row[2])


def do_move(run, row):
    """move R S"""
    run.put(row[1], run.value_of(row[2]))


def do_read(run, row):
    """read R NAME I"""
    if run.use(row[2]):
        run.put(row[1], word_value(run.code.rows_of(row[2])[row[3]]))


def do_readr(run, row):
    """readr R S I"""
    value = run.value_of(row[2])
    home = home_at(run.code, value, "data")
    if home is None:
        run.end("fault")
    # It looks at the data before it can find that they have too few words.
    elif run.use(home, value[1]):
        words = run.code.rows_of(home)
        if row[3] < len(words):
            run.put(row[1], word_value(words[row[3]]))
        else:
            run.end("fault")


def do_same(run, row):
    """same R S TO"""
    one, other = run.value_of(row[1]), run.value_of(row[2])
    same = one == other
    if not same and is_address(one) and is_address(other):
        pair = in_order(one[1], other[1])
        run.compared[pair] = True
        same = pair in run.joined
    run.go_to(row[3] if same else run.number + 1)


def do_choose(run, row):
    """choose TO"""
    run.meet(("asked",), [run.number + 1, row[1]])


def do_tell(run, row):
    """tell R"""
    value = run.value_of(row[1])
    if is_address(value):
        run.end("fault")
    else:
        run.meet(("told", value), [run.number + 1])


def do_go(run, row):
    """go TO"""
    run.go_to(row[1])


ACTIONS = {
    "call": do_call,
    "callr": do_callr,
    "ret": do_ret,
    "addr": do_addr,
    "set": do_set,
    "move": do_move,
    "read": do_read,
    "readr": do_readr,
    "same": do_same,
    "choose": do_choose,
    "tell": do_tell,
    "go": do_go,
}


def step(run):
    """Does the next instruction; the number behind the last one is a ret."""
    rows = run.code.rows_of(run.name)
    row = rows[run.number] if run.number < len(rows) else ("ret",)
    action = ACTIONS[row[0]]
    action(run, row)


def advance(code, state, joined=()):
    """The Run from a state, at its next event; its frames are those at the instruction that makes it."""
    run = Run(code, state, joined)
    for _ in range(MOST_SILENT + 1):
        run.frames = run.stack()
        step(run)
        if run.event is not None:
            return run
    run.end("silent")
    return run


class Steps:
    """What a code does from its states to their next events; each state is looked at once."""

    def __init__(self, code):
        self.code = code
        self._runs = {}

    def run_from(self, state):
        """The Run from a state."""
        if state not in self._runs:
            self._runs[state] = advance(self.code, state)
        return self._runs[state]


def begin(code):
    """The first state of a code."""
    return (((code.entry, 0),), (0, 0, 0, 0))


def event_of(code, state):
    """The next event of a state, the frames that make it, and the list of the states right behind it."""
    run = advance(code, state)
    return (run.event, run.frames, list(run.followers))


def is_choice(value):
    """Whether any value is 0 or 1, and not True or False."""
    return is_integer(value) and 0 <= value <= 1


def is_moment(value):
    """Whether any value has the form of a moment."""
    if not isinstance(value, tuple) or len(value) != 2:
        return False
    choices, number = value
    if not isinstance(choices, tuple) or not all([is_choice(choice) for choice in choices]):
        return False
    return is_integer(number) and 0 <= number <= MOST_EVENTS


def passed(steps, value):
    """The events ahead of a moment and the state behind them, or None if any value is no moment of a run."""
    if not is_moment(value):
        return None
    choices, number = value
    events = []
    state = begin(steps.code)
    asked = 0
    for _ in range(number):
        run = steps.run_from(state)
        events.append(run.event)
        if len(run.followers) == 1:
            state = run.followers[0]
        elif len(run.followers) == 2 and asked < len(choices):
            state = run.followers[choices[asked]]
            asked += 1
        else:
            return None
    return (events, state) if asked == len(choices) else None


def at(code, moment):
    """The state of a moment, right behind its last event. Raises BadValue."""
    found = passed(Steps(code), moment)
    if found is None:
        raise BadValue(moment)
    return found[1]


def record_on(code, state, items, most):
    """The items of a record and those from a state on, and the states behind an asking that ends them."""
    items = list(items)
    followers = [state]
    while len(followers) == 1 and len(items) < most:
        event, _, followers = event_of(code, followers[0])
        items.append(event)
    return (tuple(items), followers)


def chosen(code, found, choice, most):
    """The record that goes on behind the asking that ends another one."""
    items, followers = found
    return record_on(code, followers[choice], (*items, ("chosen", choice)), most)


def record(code, choices, most=LONGEST_RECORD):
    """The record of a run with a list of choices. Raises BadValue."""
    if not isinstance(choices, list) or not all([is_choice(choice) for choice in choices]):
        raise BadValue(choices)
    found = record_on(code, begin(code), (), most)
    for choice in choices:
        if len(found[1]) == 2:
            found = chosen(code, found, choice, most)
    return found[0]


def records(code, most):
    """The records for all rows of at most this many choices, shorter rows first, then by their choices."""
    rows = [record_on(code, begin(code), (), LONGEST_RECORD)]
    for length in range(most + 1):
        if length > 0:
            asking = [found for found in rows if len(found[1]) == 2]
            rows = [chosen(code, found, choice, LONGEST_RECORD) for found in asking for choice in (0, 1)]
        for items, _ in rows:
            yield items
