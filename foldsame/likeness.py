"""Likeness: which pieces may have one body, and paths that show which may not."""

from foldsame.errors import BadValue, UnknownName
from foldsame.forms import first_names, form_of, in_order, pairs_of
from foldsame.programs import name_place
from foldsame.texts import is_integer


def is_partition(pieces, value):
    """Whether any value is a partition of the pieces, a tuple of ascending full names."""
    if not isinstance(value, tuple) or not all([isinstance(part, tuple) and len(part) > 0 for part in value]):
        return False
    names = [name for part in value for name in part]
    if not all([isinstance(name, str) for name in names]) or sorted(names) != list(pieces):
        return False
    firsts = [part[0] for part in value]
    return firsts == sorted(firsts) and all([list(part) == sorted(part) for part in value])


def are_pieces(program, value):
    """Whether any value is a tuple of unlike full names."""
    if not isinstance(value, tuple) or not all([name in program for name in value]):
        return False
    return len(set(value)) == len(value)


def check_given(program, addresses, alone):
    """Raises BadValue for addresses or alone."""
    if not is_partition(program.taken, addresses):
        raise BadValue(addresses)
    if not are_pieces(program, alone):
        raise BadValue(alone)


def check_names(program, *names):
    """Raises UnknownName for the first that is no full name."""
    for name in names:
        if name not in program:
            raise UnknownName(name)


def own_forms(program, addresses):
    """The form of each piece by itself: pieces that have unlike ones differ at once."""
    bodies = {name: None for name in program.pieces}
    homes = first_names(addresses)
    return {name: form_of(program, name, bodies, homes) for name in program.pieces}


def differ_at_once(forms, alone, one, other):
    """Whether two pieces differ at once, by the forms of all."""
    return one in alone or other in alone or forms[one] != forms[other]


def looked_at(program, name, number):
    """The instruction, `call` or `read`, and the NAME of a row of a piece, or None if there is no such row."""
    if program.kind_of(name) != "func" or not 0 <= number < len(program.rows_of(name)):
        return None
    row = program.rows_of(name)[number]
    return (row[0], row[name_place(row)]) if row[0] in ("call", "read") else None


def next_pair(program, one, other, number):
    """The pieces that both call, or both read, in the row of this number, or None."""
    here, there = looked_at(program, one, number), looked_at(program, other, number)
    if here is None or there is None or here[0] != there[0]:
        return None
    return (here[1], there[1])


def path_onward(program, pair, paths):
    """A path by way of the first row that leads to a pair that has one, or None."""
    one, other = pair
    for number in range(len(program.rows_of(one))):
        onward = next_pair(program, one, other, number)
        if onward is not None and in_order(*onward) in paths:
            return (number, *paths[in_order(*onward)])
    return None


def least_paths(program, addresses, alone, known):
    """The least right path of each pair of unlike pieces. All other pairs are alike.

    What is known of a pair, its path or None, is not looked for again.
    """
    forms = own_forms(program, addresses)
    rest = [pair for pair in pairs_of(program.pieces) if pair not in known]
    waiting = [pair for pair in known if known[pair] is not None]
    found = {pair: () for pair in rest if differ_at_once(forms, alone, *pair)}
    paths = {}
    length = 0
    while found or waiting:
        for pair in waiting:
            if len(known[pair]) == length:
                found[pair] = known[pair]
        waiting = [pair for pair in waiting if pair not in found]
        paths.update(found)
        rest = [pair for pair in rest if pair not in paths]
        # A pair has no path yet, so those it leads to have the longest so far: all found now are as long.
        longer = {pair: path_onward(program, pair, paths) for pair in rest}
        found = {pair: longer[pair] for pair in rest if longer[pair] is not None}
        length += 1
    return paths


def bodies_apart(pieces, paths):
    """The partition of the pieces in which those with a path between them are apart."""
    parts = {}
    for name in pieces:
        like = [first for first in parts if (first, name) not in paths]
        parts.setdefault(like[0] if like else name, []).append(name)
    return tuple([tuple(parts[first]) for first in parts])


def within_parts(parts, names):
    """Whether some of the parts has all the names."""
    return any([all([name in part for name in names]) for part in parts])


class Likeness:
    """The greatest stable partition of a program's pieces, for given addresses."""

    def __init__(self, program, addresses, *, alone=()):
        check_given(program, addresses, alone)
        self.fill(program, addresses, alone, {})

    def fill(self, program, addresses, alone, known):
        """Sets all attributes, by what is known of the paths of some pairs."""
        self.program = program
        self.addresses = addresses
        self.alone = alone
        self._paths = least_paths(program, addresses, alone, known)
        self.bodies = bodies_apart(program.pieces, self._paths)
        self._firsts = first_names(self.bodies)

    @property
    def holds(self):
        """Whether the pieces of one address are of one body."""
        return all([within_parts(self.bodies, part) for part in self.addresses])

    def path(self, one, other):
        """The least right path from two pieces, or None if they are of one body. Raises UnknownName."""
        check_names(self.program, one, other)
        return self._paths.get(in_order(one, other))

    def paper(self):
        """The bodies, and the least path for the first pieces of all two of them."""
        firsts = [part[0] for part in self.bodies]
        return (self.bodies, tuple([(one, other, self.path(one, other)) for one, other in pairs_of(firsts)]))

    def __contains__(self, pair):
        if not isinstance(pair, tuple) or len(pair) != 2:
            return False
        one, other = pair
        return one in self.program and other in self.program and self._firsts[one] == self._firsts[other]

    def __len__(self):
        return len(self.bodies)

    def __iter__(self):
        return iter(self.bodies)


def joined(parts, one, other):
    """A partition with the parts of two names made one; the order of the parts does not matter."""
    first = [part for part in parts if one in part or other in part]
    return [part for part in parts if part not in first] + [[name for part in first for name in part]]


def forced_pairs(program, part):
    """The pairs of pieces that are of one body if those of a part are."""
    first = part[0]
    numbers = range(len(program.rows_of(first)))
    pairs = [next_pair(program, first, other, number) for other in part[1:] for number in numbers]
    return [pair for pair in pairs if pair is not None]


def least_bodies(program, addresses):
    """The least stable partition that holds the addresses, or None. Raises BadValue."""
    if not Likeness(program, addresses).holds:
        return None
    parts = [[name] for name in program.pieces]
    waiting = [(part[0], name) for part in addresses for name in part]
    while waiting:
        for one, other in waiting:
            parts = joined(parts, one, other)
        forced = [pair for part in parts for pair in forced_pairs(program, part)]
        waiting = [pair for pair in forced if not within_parts(parts, pair)]
    return tuple(sorted([tuple(sorted(part)) for part in parts]))


def path_end(program, pair, value):
    """The pieces to which any value leads from two pieces as a path, or None if it does not."""
    if not isinstance(value, tuple) or not all([is_integer(number) for number in value]):
        return None
    one, other = pair
    for number in value:
        onward = next_pair(program, one, other, number)
        if onward is None:
            return None
        one, other = onward
    return (one, other)


def path_right(program, forms, alone, pair, value):
    """Whether any value is a right path from two pieces."""
    end = path_end(program, pair, value)
    return end is not None and end[0] != end[1] and differ_at_once(forms, alone, *end)


def check_path(program, addresses, one, other, value, *, alone=()):
    """Whether any value is a right path from two unlike full names. Raises BadValue, UnknownName."""
    check_given(program, addresses, alone)
    check_names(program, one, other)
    return path_right(program, own_forms(program, addresses), alone, (one, other), value)


def is_stable(program, addresses, bodies):
    """Whether the pieces of each body agree."""
    firsts = first_names(bodies)
    homes = first_names(addresses)
    forms = {name: form_of(program, name, firsts, homes) for name in program.pieces}
    return all([forms[name] == forms[firsts[name]] for name in program.pieces])


def check_likeness(program, addresses, value, *, alone=()):
    """Whether any value is a stable partition with right paths between its bodies. Raises BadValue."""
    check_given(program, addresses, alone)
    if not isinstance(value, tuple) or len(value) != 2:
        return False
    bodies, paths = value
    if not is_partition(program.pieces, bodies) or not is_stable(program, addresses, bodies):
        return False
    if not all([(name,) in bodies for name in alone]):
        return False
    return isinstance(paths, tuple) and paths_right(program, addresses, alone, bodies, paths)


def paths_right(program, addresses, alone, bodies, paths):
    """Whether paths are right ones of pieces, and there is one for each two bodies."""
    forms = own_forms(program, addresses)
    firsts = first_names(bodies)
    shown = {}
    for entry in paths:
        if not isinstance(entry, tuple) or len(entry) != 3:
            return False
        one, other, path = entry
        if one not in program or other not in program:
            return False
        if not path_right(program, forms, alone, (one, other), path):
            return False
        shown[in_order(firsts[one], firsts[other])] = True
    return all([pair in shown for pair in pairs_of([part[0] for part in bodies])])
