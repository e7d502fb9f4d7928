"""What several tests use: texts, programs at random, and slow ways that follow the document word by word."""

import itertools
import random

from foldsame.errors import FoldError, LimitExceeded
from foldsame.programs import Program

ZEROS = (0, 0, 0, 0)


class Odd:
    """A value that claims to be equal to anything."""

    def __eq__(self, other):
        return True

    def __hash__(self):
        return hash("m.main")


ANY_VALUES = [None, True, False, 0, 1, -1, 200, 1.5, b"m.f", "", "m", "m.f", "m.none", (), [], {}, set(), (1,), ((),),
              ((), ()), ((), 0.0), ([], 0), [(), 0], ("m.f",), (("m.f",),), ("at", "m.f"), {"m.f": 1}, {"m.f"},
              frozenset(["m.f"]), object(), Odd(), (Odd(),), (Odd(), Odd()), (Odd(), Odd(), Odd()), ([], []),
              ([], [], []), (None, None), (None, None, None), int, ((1, 2), (3, 4))]
NO_FULL_NAMES = [None, True, 0, 1.5, b"m.main", "", "m", "main", "m.none", "m.main.old", ("m.main",), ["m.main"],
                 {"m.main": 1}, {"m.main"}, object(), Odd()]


def rows(*given):
    return "\n".join(given)


def func(name, *given):
    return rows("func " + name, *given, "end")


def data(name, *given):
    return rows("data " + name, *given, "end")


def program_of(*parts):
    """The Program of one module m that exports main."""
    return Program({"m": rows("export main", *parts)})


def main_of(*given):
    """The Program of one function."""
    return program_of(func("main", *given))


def long_program(many, *parts, first=(), last=()):
    """A program whose only run has so many states, 194 to 209, and perhaps silent rows first, and some last."""
    return program_of(func("main", *first, *["call long"] * 12, "call rest", *last),
                      func("long", *["tell d"] * 16), func("rest", *["tell d"] * (many - 193)), *parts)


def two_joinings():
    """The program of the document of which two joinings are noticed alone, and not together."""
    first = "export main\nfunc main\naddr a f\naddr b g\nset c 1\nset d 1\nsame a b 6\ngo 7\nset d 2\naddr a h\naddr b i"
    main = first + "\nsame a b 11\ngo 15\nsame d c 14\nset d 1\ngo 15\nset d 2\ntell d\nend"
    return Program({"m": main + "\nfunc f\nend\nfunc g\nend\nfunc h\nret\nend\nfunc i\nret\nend"})


def error_of(call, *given, **named):
    """The error of a call: its class, and what it keeps; None if there is none."""
    try:
        call(*given, **named)
    except FoldError as error:
        return (type(error), *error.__dict__.values())
    return None


def parts_of(names):
    """All partitions of a tuple of names, the order of the parts being that of their first names."""
    if not names:
        return [()]
    found = []
    for many in range(len(names)):
        for others in itertools.combinations(names[1:], many):
            rest = tuple([name for name in names[1:] if name not in others])
            found.extend([((names[0], *others), *parts) for parts in parts_of(rest)])
    return found


def together_in(parts, one, other):
    return any(one in part and other in part for part in parts)


def agrees(program, addresses, bodies, one, other):
    """Whether two pieces agree, as [6] says it."""
    if program.kind_of(one) != program.kind_of(other) or len(program.rows_of(one)) != len(program.rows_of(other)):
        return False
    for row, its in zip(program.rows_of(one), program.rows_of(other)):
        if program.kind_of(one) == "data":
            if isinstance(row, str) and isinstance(its, str):
                if not together_in(addresses, row, its):
                    return False
            elif row != its:
                return False
        elif len(row) != len(its) or row[0] != its[0]:
            return False
        elif row[0] in ("call", "read"):
            place = {"call": 1, "read": 2}[row[0]]
            if row[:place] + row[place + 1:] != its[:place] + its[place + 1:]:
                return False
            if not together_in(bodies, row[place], its[place]):
                return False
        elif row[0] == "addr":
            if row[1] != its[1] or not together_in(addresses, row[2], its[2]):
                return False
        elif row != its:
            return False
    return True


def stable_parts(program, addresses, alone=()):
    """All stable partitions in which some pieces are alone."""
    return [parts for parts in parts_of(program.pieces)
            if all(len(part) == 1 for part in parts for name in part if name in alone)
            and all(agrees(program, addresses, parts, *pair) for part in parts
                    for pair in itertools.combinations(part, 2))]


def lies_in(finer, coarser):
    return all(any(set(part) <= set(other) for other in coarser) for part in finer)


def holds(parts, addresses):
    return lies_in(addresses, parts)


def slow_event(code, state, used=None, compared=None, kept=None):
    """The next event of a state with its frames and the states behind it, as [5] says it.

    Of kept, bodies and addresses, the others are left out.
    """
    used = [] if used is None else used
    compared = [] if compared is None else compared
    frames, values = [list(frame) for frame in state[0]], dict(zip("abcd", state[1]))
    for count in range(1, 62):
        name, number = frames[-1]
        body = code.rows_of(name)
        row = body[number] if number < len(body) else ("ret",)
        here = tuple([tuple(frame) for frame in frames])

        def behind(to):
            return (*here[:-1], (name, to)), tuple(values.values())

        def missing(body, address=None):
            if kept is None:
                return False
            return body not in kept[0] or (address is not None and address not in kept[1])

        word = row[0]
        frames[-1][1] = number + 1
        fault, lost = (("ended", "fault"), here, []), (("ended", "missing"), here, [])
        if word in ("call", "callr"):
            to = row[1]
            if word == "callr":
                if isinstance(values[to], int) or code.kind_of(code.home_of(values[to][1])) != "func":
                    return fault
                to = code.home_of(values[to][1])
            if len(frames) == 4:
                return ("ended", "deep"), here, []
            if missing(to, values[row[1]][1] if word == "callr" else None):
                return lost
            used.append(to)
            if word == "callr":
                used.append(values[row[1]])
            frames.append([to, 0])
        elif word == "ret":
            if len(frames) == 1:
                return ("ended", "done"), here, []
            frames.pop()
        elif word == "addr":
            values[row[1]] = ("at", row[2])
        elif word == "set":
            values[row[1]] = row[2]
        elif word == "move":
            values[row[1]] = values[row[2]]
        elif word in ("read", "readr"):
            of = row[2]
            if word == "readr":
                if isinstance(values[of], int) or code.kind_of(code.home_of(values[of][1])) != "data":
                    return fault
                address = values[of]
                of = code.home_of(address[1])
                if missing(of, address[1]):
                    return lost
                used.append(address)
            elif missing(of):
                return lost
            used.append(of)
            if row[3] >= len(code.rows_of(of)):
                return fault
            datum = code.rows_of(of)[row[3]]
            values[row[1]] = ("at", datum) if isinstance(datum, str) else datum
        elif word == "same":
            one, other = values[row[1]], values[row[2]]
            if not isinstance(one, int) and not isinstance(other, int) and one != other:
                compared.append(tuple(sorted([one[1], other[1]])))
            if one == other:
                frames[-1][1] = row[3]
        elif word == "go":
            frames[-1][1] = row[1]
        elif word == "choose":
            return ("asked",), here, [behind(number + 1), behind(row[1])]
        elif word == "tell":
            if not isinstance(values[row[1]], int):
                return fault
            return ("told", values[row[1]]), here, [behind(number + 1)]
        if count == 61:
            return ("ended", "silent"), here, []


def slow_walk(code, most=200):
    """All states of runs, each with its least moment; LimitExceeded as uses raises it."""
    start = (((code.entry, 0),), ZEROS)
    found = {start: ((), 0)}
    level = [start]
    while level:
        nexts = {}
        for state in level:
            choices, number = found[state]
            followers = slow_event(code, state)[2]
            for choice, follower in enumerate(followers):
                moment = (choices + ((choice,) if len(followers) == 2 else ()), number + 1)
                if follower not in found and (follower not in nexts or moment < nexts[follower]):
                    nexts[follower] = moment
        found.update(nexts)
        level = sorted(nexts, key=lambda state: found[state][0])
        if len(found) > most:
            raise LimitExceeded(200)
    return found


def slow_uses(code):
    """What some run of a code uses, and what it compares with the least moments."""
    used, compared = [code.entry], {}
    for state, moment in slow_walk(code).items():
        pairs = []
        slow_event(code, state, used, pairs)
        for pair in pairs:
            compared[pair] = min(moment, compared.get(pair, moment), key=lambda one: (one[1], one[0]))
    bodies = tuple(sorted({name for name in used if isinstance(name, str)}))
    return bodies, tuple(sorted({value[1] for value in used if not isinstance(value, str)})), compared


def slow_size(code):
    """The size of an image, as [9] says it."""
    bodies, addresses, _ = slow_uses(code)
    total = sum(len(code.rows_of(name)) for name in bodies)
    for name in bodies:
        many = len([address for address in addresses if code.home_of(address) == name])
        once = len(code.rows_of(name))
        total += max(0, many - 1) * (min(once, 2) if code.kind_of(name) == "func" else once)
    return total


def slow_notice(one, other, start, most=200):
    """The least moment at which two codes are unlike from a pair of states, or None; LimitExceeded as [9] says."""
    found = {start: ((), 0)}
    level = [start]
    while level:
        unlike = [found[pair] for pair in level if slow_event(one, pair[0])[0] != slow_event(other, pair[1])[0]]
        if unlike:
            return min(unlike)
        nexts = {}
        for here, there in level:
            choices, number = found[(here, there)]
            pairs = list(zip(slow_event(one, here)[2], slow_event(other, there)[2]))
            for choice, pair in enumerate(pairs):
                moment = (choices + ((choice,) if len(pairs) == 2 else ()), number + 1)
                if pair not in found and (pair not in nexts or moment < nexts[pair]):
                    nexts[pair] = moment
        found.update(nexts)
        level = list(nexts)
        if len(found) > most:
            raise LimitExceeded(200)
    return None


def slow_pairs(one, other, most=200):
    """All pairs of states of a program and an image, each with its least moment, by these; LimitExceeded as [9] says.

    None if the image is noticed.
    """
    start = tuple([(((code.entry, 0),), ZEROS) for code in (one, other)])
    if slow_notice(one, other, start, most) is not None:
        return None
    found = {}
    waiting = [(start, ((), 0))]
    while waiting:
        pair, moment = min(waiting, key=lambda row: (row[1][1], row[1][0]))
        waiting.remove((pair, moment))
        if pair in found:
            continue
        found[pair] = moment
        pairs = list(zip(slow_event(one, pair[0])[2], slow_event(other, pair[1])[2]))
        for choice, behind in enumerate(pairs):
            waiting.append((behind, (moment[0] + ((choice,) if len(pairs) == 2 else ()), moment[1] + 1)))
    return found


class Maker:
    """Makes programs at random, the same ones for the same number. Their pieces come from few shapes."""

    def __init__(self, number):
        self.random = random.Random(number)

    def row(self, many, shapes, tame):
        """An instruction, with the number of a shape for its NAME; a tame one goes on, and far if it jumps."""
        pick = self.random.choice
        register, other = pick("abcd"), pick("abcd")
        to = self.random.randint(many // 2, many) if tame else self.random.randint(0, many)
        func_shapes = [shape for shape, (kind, _) in enumerate(shapes) if kind == "func"]
        data_shapes = [shape for shape, (kind, most) in enumerate(shapes) if kind == "data" and most > 0]
        forms = [("set", register, pick([1, 2])), ("move", register, other), ("same", register, other, to),
                 ("same", register, other, to), ("choose", to), ("tell", register)]
        forms += [("addr", register, pick(range(len(shapes)))) for _ in range(4)]
        forms += [("call", pick(func_shapes))] * 2
        forms += [("callr", register)] * 2
        if data_shapes:
            forms += [("read", register, pick(data_shapes), 0), ("readr", register, other, pick([0, 1]))]
        if not tame:
            forms += [("ret",), ("go", to)]
        return pick(forms)

    def filled(self, row, of_shape):
        """A row with one of the names of a shape for the number."""
        if isinstance(row, int):
            return str(row)
        if row[0] == "taken":
            return self.random.choice(of_shape[row[1]])
        place = {"addr": 2, "call": 1, "read": 2}.get(row[0])
        words = [self.random.choice(of_shape[word]) if at == place else str(word) for at, word in enumerate(row)]
        return " ".join(words)

    def program(self, most=6):
        """A program of at most so many pieces."""
        pick = self.random.choice
        names = list("fghijk")[:self.random.randint(2, most - 1)]
        shapes = [("func", self.random.randint(0, 3)), pick([("func", 2), ("data", 2), ("data", 1)]), ("func", 1)]
        shapes = shapes[:min(len(names), self.random.randint(1, 3))]
        shape_of = {name: at if at < len(shapes) else pick(range(len(shapes))) for at, name in enumerate(names)}
        of_shape = [[name for name in names if shape_of[name] == shape] for shape in range(len(shapes))]
        bodies = []
        for kind, many in shapes:
            if kind == "data":
                bodies.append([pick([1, 2, ("taken", pick(range(len(shapes))))]) for _ in range(many)])
            else:
                bodies.append([self.row(many, shapes, False) for _ in range(many)])
        parts = []
        for name in names:
            body = [self.filled(row, of_shape) for row in bodies[shape_of[name]]]
            parts.append((data if shapes[shape_of[name]][0] == "data" else func)(name, *body))
        many = self.random.randint(4, 14)
        main = [("addr", register, pick(range(len(shapes)))) for register in "abcd"[:self.random.randint(0, 3)]]
        main += [self.row(many, shapes, True) for _ in range(many - len(main))]
        return program_of(func("main", *[self.filled(row, of_shape) for row in main]), *parts)


def programs_at_random(many, most=6, start=0):
    """So many programs at random."""
    return [Maker(number).program(most) for number in range(start, start + many)]


def branching_program(number, most=5):
    """A program that chooses which addresses it calls, and sometimes compares them, of up to so many alike functions."""
    pick = random.Random(number)
    names = list("fghijk")[:pick.randint(2, most)]
    rows = ["choose 3", f"addr a {pick.choice(names[:3])}", "go 4", f"addr a {pick.choice(names[:3])}"]
    if pick.random() < 0.7:
        rows += ["choose 6", f"addr b {pick.choice(names[:3])}"]
        if pick.random() < 0.7:
            rows += [f"same a b {len(rows) + 2}", pick.choice(["set c 1", "tell c", "ret"])]
    rows += pick.choice([["callr a"], ["callr a", "callr b"], ["call h0", "callr a"], ["callr a", "tell c", "go 0"]])
    if pick.random() < 0.3:
        rows += ["choose 0"]
    shapes = [pick.choice([["tell c"], ["set b 1", "tell b"], ["call h0"], ["tell c", "callr b"], ["choose 1"]])]
    shapes += [pick.choice([shapes[0], ["tell c"], ["call h1"]])]
    parts = [func(name, *pick.choice(shapes)) for name in names]
    return program_of(func("main", *rows), *parts, func("h0", "tell d"), func("h1", "tell d"), data("d", *names))


def branching_programs(many, most=5, start=0):
    """So many of these."""
    return [branching_program(number, most) for number in range(start, start + many)]
