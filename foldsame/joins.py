"""Joins: which pieces are alike, for all partitions of the taken pieces into addresses at once.

Each two taken pieces have a bit. A partition joins those of one address, and is told by the sum of their bits.
"""

from foldsame.foldings import Folding
from foldsame.forms import first_names, form_of, in_order, pairs_of
from foldsame.likeness import next_pair
from foldsame.machine import address_of, is_address
from foldsame.programs import taken_names


class Joins:
    """What has to be joined so that pieces are alike, where some are to be alone in their bodies."""

    def __init__(self, program, bits, ahead):
        self.program = program
        self.bits = bits
        self._ahead = ahead
        self._needs = needs_of(ahead)
        self.asked = 0
        for need in self._needs.values():
            self.asked = self.asked | need
        self._firsts = {}

    def with_alone(self, alone):
        """The Joins where these pieces, too, are to be alone."""
        ahead = {pair: self._ahead[pair] for pair in self._ahead if pair[0] not in alone and pair[1] not in alone}
        return Joins(self.program, self.bits, ahead)

    def joined_by(self, addresses):
        """The sum of bits of a partition."""
        return sum([self.bits[pair] for part in addresses for pair in pairs_of(part)])

    def alike(self, joined, pair):
        """Whether an ascending pair is of one body."""
        return pair in self._needs and self._needs[pair] & joined == self._needs[pair]

    def are_held(self, joined, addresses):
        """Whether the greatest bodies of a partition hold its addresses."""
        # Likeness goes on from piece to piece: the first one of an address is enough.
        return all([self.alike(joined, (part[0], name)) for part in addresses for name in part[1:]])

    def firsts_of(self, joined):
        """For each piece the first one of its body, among the greatest ones."""
        told = joined & self.asked
        if told not in self._firsts:
            self._firsts[told] = self.bodies_told(told)
        return self._firsts[told]

    def bodies_told(self, told):
        """The same, by those bits that matter for it."""
        firsts = {}
        for name in self.program.pieces:
            like = [first for first in firsts if self.alike(told, (first, name))]
            firsts[name] = like[0] if like else name
        return firsts

    def differ_at_once(self, joined, pair):
        """Whether the pieces of an ascending pair differ at once."""
        return pair not in self._ahead or self._ahead[pair][0] & joined != self._ahead[pair][0]

    def path(self, joined, pair):
        """The least right path of an ascending pair, or None if it is of one body."""
        level = {pair: ()}
        seen = {pair: True}
        while level:
            ahead = level
            level = {}
            for here, path in ahead.items():
                if self.differ_at_once(joined, here):
                    return path
                for number, onward in self._ahead[here][1]:
                    if onward not in seen:
                        seen[onward] = True
                        level[onward] = (*path, number)
        return None


def joins_of(program):
    """The Joins of a program, where no piece is to be alone."""
    bits = {pair: 1 << place for place, pair in enumerate(pairs_of(program.taken))}
    return Joins(program, bits, links_of(program, bits))


def links_of(program, bits):
    """For each pair that does not always differ at once: the bits that it asks for, and what it leads to, by rows."""
    blank = {name: None for name in program.pieces}
    alike = {}
    for name in program.pieces:
        alike.setdefault(form_of(program, name, blank, blank), []).append(name)
    return {pair: (bits_between(program, bits, *pair), pairs_behind(program, *pair))
            for names in alike.values() for pair in pairs_of(names)}


def bits_between(program, bits, one, other):
    """The bits of the addresses that two pieces take at the same places."""
    here, there = [taken_names(program.kind_of(name), program.rows_of(name)) for name in (one, other)]
    pairs = sorted(set([in_order(first, second) for first, second in zip(here, there) if first != second]))
    return sum([bits[pair] for pair in pairs])


def pairs_behind(program, one, other):
    """The unlike pieces that two pieces call or read in the same rows, with the numbers of these."""
    pairs = [next_pair(program, one, other, number) for number in range(len(program.rows_of(one)))]
    return [(number, in_order(*pair)) for number, pair in enumerate(pairs) if pair is not None and pair[0] != pair[1]]


def needs_of(ahead):
    """The bits that make the pieces of a pair alike, for each pair that can be."""
    needs = {pair: ahead[pair][0] for pair in ahead}
    grown = True
    while grown:
        grown = False
        for pair in list(needs):
            need = need_onward(pair, ahead, needs)
            if need is None:
                del needs[pair]
                grown = True
            elif need != needs[pair]:
                needs[pair] = need
                grown = True
    return needs


def need_onward(pair, ahead, needs):
    """What is known that a pair needs, with what it leads to; None if a pair behind it cannot be alike."""
    need = needs[pair]
    for _, onward in ahead[pair][1]:
        if onward not in needs:
            return None
        need = need | needs[onward]
    return need


class Fold:
    """A partition into addresses with the greatest bodies; of its image it tells what sizes and states need."""

    def __init__(self, joins, addresses):
        self.program = joins.program
        self.addresses = addresses
        self.joined = joins.joined_by(addresses)
        self.legal = joins.are_held(self.joined, addresses)
        self.homes = first_names(addresses)
        self.firsts = joins.firsts_of(self.joined)
        self.entry = self.firsts[self.program.entry]

    def parted(self):
        """The partition of the pieces into bodies."""
        parts = {}
        for name in self.program.pieces:
            parts.setdefault(self.firsts[name], []).append(name)
        return tuple([tuple(part) for part in parts.values()])

    def as_folding(self):
        """The Folding that it is, if it is legal."""
        return Folding(self.program, self.addresses, self.parted())

    def kind_of(self, name):
        """The kind of a body."""
        return self.program.kind_of(name)

    def rows_of(self, name):
        """As many rows as a body has: what its names are in them does not matter here."""
        return self.program.rows_of(name)

    def home_of(self, name):
        """The body to which an address goes."""
        return self.firsts[name]

    def state_named(self, state):
        """The state of the image that stands for a state of the program."""
        frames, registers = state
        values = [address_of(self.homes[value[1]]) if is_address(value) else value for value in registers]
        return (self.stack_named(frames), tuple(values))

    def stack_named(self, frames):
        """The frames of the image that stand for frames of the program."""
        return tuple([(self.firsts[name], number) for name, number in frames])
