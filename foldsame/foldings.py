"""Foldings: which taken pieces have one address, and which pieces one body."""

from foldsame.errors import BadValue, NotLegal, UnknownName
from foldsame.forms import first_names, form_of, pairs_of
from foldsame.likeness import Likeness, is_partition, within_parts


def with_name(parts, name):
    """The partitions that come from one by a name behind all others: within each part, and alone."""
    grown = [parts[:place] + ((*part, name),) + parts[place + 1:] for place, part in enumerate(parts)]
    return [*grown, (*parts, (name,))]


def partitions(names):
    """All partitions of a tuple of ascending names: fewer parts first, then ascending."""
    found = [()]
    for name in names:
        found = [grown for parts in found for grown in with_name(parts, name)]
    return sorted(found, key=lambda parts: (len(parts), parts))


class Folding:
    """Partitions of the taken pieces into addresses and of all pieces into bodies."""

    def __init__(self, program, addresses, bodies):
        if not is_partition(program.taken, addresses):
            raise BadValue(addresses)
        if not is_partition(program.pieces, bodies):
            raise BadValue(bodies)
        self.program = program
        self.addresses = addresses
        self.bodies = bodies
        self._homes = first_names(addresses)
        self._firsts = first_names(bodies)
        forms = {name: form_of(program, name, self._firsts, self._homes) for name in program.pieces}
        for one, other in pairs_of(program.pieces):
            if not self._right(forms, one, other):
                raise NotLegal(one, other)

    def _right(self, forms, one, other):
        """Whether a legal folding may hold two pieces, of these forms, as this one does."""
        if self._firsts[one] == self._firsts[other]:
            return forms[one] == forms[other]
        return one not in self._homes or other not in self._homes or self._homes[one] != self._homes[other]

    def address_of(self, name):
        """The first piece of the address of a full name. Raises UnknownName."""
        if not isinstance(name, str) or name not in self._homes:
            raise UnknownName(name)
        return self._homes[name]

    def body_of(self, name):
        """The first piece of the body of a full name. Raises UnknownName."""
        if not isinstance(name, str) or name not in self._firsts:
            raise UnknownName(name)
        return self._firsts[name]

    def within(self, other):
        """Whether each address and body lies in one of another folding of the program."""
        return (all([within_parts(other.addresses, part) for part in self.addresses])
                and all([within_parts(other.bodies, part) for part in self.bodies]))

    def __eq__(self, other):
        return (isinstance(other, Folding) and self.program == other.program
                and self.addresses == other.addresses and self.bodies == other.bodies)


def plain(program):
    """The folding in which all is apart."""
    return Folding(program, tuple([(name,) for name in program.taken]), tuple([(name,) for name in program.pieces]))


def foldings(program):
    """The legal foldings of all partitions into addresses, in order, each with the greatest stable bodies."""
    for addresses in partitions(program.taken):
        likeness = Likeness(program, addresses)
        if likeness.holds:
            yield Folding(program, addresses, likeness.bodies)
