"""Foldings: partitions of names, legal foldings, and what they tell."""

import itertools
import unittest

from helpers import ANY_VALUES, NO_FULL_NAMES, Odd, agrees, data, error_of, func, holds, lies_in, parts_of
from helpers import program_of, programs_at_random, stable_parts, together_in
from foldsame.errors import BadValue, NotLegal, UnknownName
from foldsame.foldings import Folding, foldings, partitions, plain
from foldsame.likeness import Likeness, is_partition, least_bodies
from foldsame.programs import Program


def apart(names):
    return tuple([(name,) for name in names])


def bodies_of(program, *parts):
    """The partition of all pieces with these parts, all others being alone."""
    within = [name for part in parts for name in part]
    return tuple(sorted([*parts, *[(name,) for name in program.pieces if name not in within]]))


class Partitions(unittest.TestCase):

    def test_none_to_three(self):
        self.assertEqual(partitions(()), [()])
        self.assertEqual(partitions(("a",)), [(("a",),)])
        self.assertEqual(partitions(("a", "b")), [(("a", "b"),), (("a",), ("b",))])
        self.assertEqual(partitions(("a", "b", "c")),
                         [(("a", "b", "c"),), (("a",), ("b", "c")), (("a", "b"), ("c",)), (("a", "c"), ("b",)),
                          (("a",), ("b",), ("c",))])

    def test_two_parts_of_four(self):
        found = [parts for parts in partitions(("a", "b", "c", "d")) if len(parts) == 2]
        self.assertEqual(found, [(("a",), ("b", "c", "d")), (("a", "b"), ("c", "d")), (("a", "b", "c"), ("d",)),
                                 (("a", "b", "d"), ("c",)), (("a", "c"), ("b", "d")), (("a", "c", "d"), ("b",)),
                                 (("a", "d"), ("b", "c"))])

    def test_all_in_their_order(self):
        for many, number in enumerate([1, 1, 2, 5, 15, 52, 203]):
            names = tuple([f"m.f{place}" for place in range(many)])
            found = partitions(names=names)
            self.assertEqual(len(found), number)
            self.assertEqual(found, sorted(parts_of(names), key=lambda parts: (len(parts), parts)))
            self.assertTrue(all([is_partition(names, parts) for parts in found]))

    def test_list_is_new_each_time(self):
        partitions(("a",)).clear()
        self.assertEqual(type(partitions(("a",))), list)
        self.assertEqual(len(partitions(("a",))), 1)


class Errors(unittest.TestCase):

    PROGRAM = program_of(func("main", "addr a f", "addr a g", "addr a h"), func("f", "call i"), func("g", "call j"),
                         func("h", "ret"), func("i", "tell a"), func("j", "tell a"))
    APART = (apart(PROGRAM.taken), apart(PROGRAM.pieces))

    def test_addresses_then_bodies(self):
        addresses, bodies = self.APART
        for value in ANY_VALUES + [addresses[:-1], addresses[::-1], bodies, list(addresses), [], (*addresses, ()), Odd()]:
            for other in (bodies, None, addresses):
                with self.assertRaises(BadValue) as caught:
                    Folding(self.PROGRAM, value, other)
                self.assertIs(caught.exception.value, value)
        for value in ANY_VALUES + [bodies[:-1], bodies[::-1], addresses, list(bodies), (*bodies, ()), Odd()]:
            with self.assertRaises(BadValue) as caught:
                Folding(self.PROGRAM, addresses, value)
            self.assertIs(caught.exception.value, value)

    def check_illegal(self, addresses, bodies, one, other):
        self.assertEqual(error_of(Folding, self.PROGRAM, addresses, bodies), (NotLegal, one, other))

    def test_one_address_and_two_bodies(self):
        self.check_illegal((("m.f", "m.g"), ("m.h",)), apart(self.PROGRAM.pieces), "m.f", "m.g")
        self.check_illegal((("m.f",), ("m.g", "m.h")), apart(self.PROGRAM.pieces), "m.g", "m.h")
        self.check_illegal((("m.f", "m.g", "m.h"),), bodies_of(self.PROGRAM, ("m.f", "m.g"), ("m.i", "m.j")),
                           "m.f", "m.h")

    def test_of_one_body_that_do_not_agree(self):
        addresses = apart(self.PROGRAM.taken)
        self.check_illegal(addresses, bodies_of(self.PROGRAM, ("m.f", "m.g")), "m.f", "m.g")
        self.check_illegal(addresses, bodies_of(self.PROGRAM, ("m.f", "m.i")), "m.f", "m.i")
        self.check_illegal(addresses, bodies_of(self.PROGRAM, ("m.h", "m.main")), "m.h", "m.main")
        self.check_illegal(addresses, bodies_of(self.PROGRAM, ("m.f", "m.g"), ("m.i", "m.j", "m.main")), "m.i", "m.main")

    def test_the_first_pair_of_both_kinds(self):
        self.check_illegal((("m.f", "m.h"), ("m.g",)), bodies_of(self.PROGRAM, ("m.f", "m.g")), "m.f", "m.g")
        self.check_illegal((("m.f", "m.g"), ("m.h",)), bodies_of(self.PROGRAM, ("m.f", "m.h")), "m.f", "m.g")
        self.check_illegal((("m.f", "m.h"), ("m.g",)), bodies_of(self.PROGRAM, ("m.i", "m.main")), "m.f", "m.h")
        self.check_illegal((("m.f",), ("m.g", "m.h")), bodies_of(self.PROGRAM, ("m.f", "m.main")), "m.f", "m.main")

    def test_each_way_not_to_agree(self):
        texts = [(["tell a"], ["tell b"]), (["tell a"], []), (["call h"], ["call i"]), (["read a x 0"], ["read a y 0"]),
                 (["addr a h"], ["addr a i"])]
        for one, other in texts:
            program = program_of(func("main", "addr b h", "addr b i"), func("f", *one), func("g", *other), func("h"),
                                 func("i"), data("x", "1"), data("y", "1"))
            self.assertEqual(error_of(Folding, program, apart(program.taken), bodies_of(program, ("m.f", "m.g"))),
                             (NotLegal, "m.f", "m.g"))
        program = program_of(func("main"), func("f"), data("g"))
        self.assertEqual(error_of(Folding, program, (), bodies_of(program, ("m.f", "m.g"))), (NotLegal, "m.f", "m.g"))
        program = program_of(func("main"), data("f", "1", "main"), data("g", "1", "f"))
        self.assertEqual(error_of(Folding, program, apart(program.taken), bodies_of(program, ("m.f", "m.g"))),
                         (NotLegal, "m.f", "m.g"))

    def test_like_all_pairs_at_random(self):
        seen = 0
        for program in programs_at_random(60, 4):
            for addresses, bodies in itertools.product(parts_of(program.taken), parts_of(program.pieces)):
                wrong = [(one, other) for one, other in itertools.combinations(program.pieces, 2)
                         if (together_in(addresses, one, other) and not together_in(bodies, one, other))
                         or (together_in(bodies, one, other) and not agrees(program, addresses, bodies, one, other))]
                self.assertEqual(error_of(Folding, program, addresses, bodies),
                                 (NotLegal, *wrong[0]) if wrong else None)
                seen += not wrong
        self.assertGreater(seen, 100)


class Foldings(unittest.TestCase):

    PROGRAM = program_of(func("main", "addr a f", "addr a g", "addr a h"), func("f"), func("g"), func("h", "ret"),
                         func("i"))
    JOINED = (("m.f", "m.g"), ("m.h",), ("m.i",), ("m.main",))

    def folding(self):
        return Folding(self.PROGRAM, (("m.f", "m.g"), ("m.h",)), self.JOINED)

    def test_example_of_the_document(self):
        main = 'export main\nfunc main\naddr a f\naddr b g\nsame a b 4\ntell c\nend'
        program = Program({'m': main + '\nfunc f\nend\nfunc g\nend'})
        self.assertEqual([one.addresses for one in foldings(program)], [(('m.f', 'm.g'),), (('m.f',), ('m.g',))])

    def test_attributes(self):
        folding = Folding(bodies=self.JOINED, addresses=apart(self.PROGRAM.taken), program=self.PROGRAM)
        self.assertIs(folding.program, self.PROGRAM)
        self.assertEqual(folding.addresses, (("m.f",), ("m.g",), ("m.h",)))
        self.assertEqual(folding.bodies, self.JOINED)

    def test_address_and_body(self):
        folding = self.folding()
        self.assertEqual([folding.address_of(name) for name in ("m.f", "m.g", "m.h")], ["m.f", "m.f", "m.h"])
        self.assertEqual([folding.body_of(name=name) for name in self.PROGRAM.pieces], ["m.f", "m.f", "m.h", "m.i", "m.main"])
        for value in NO_FULL_NAMES + ANY_VALUES:
            if not isinstance(value, str) or value not in self.PROGRAM:
                for call in (folding.address_of, folding.body_of):
                    with self.assertRaises(UnknownName) as caught:
                        call(value)
                    self.assertIs(caught.exception.value, value)
        self.assertEqual(error_of(folding.address_of, name="m.main"), (UnknownName, "m.main"))

    def test_equality(self):
        folding = self.folding()
        same = Folding(program_of(func("main", "addr a f", "addr a g", "addr a h"), func("g"), func("f"),
                                  func("i"), func("h", "ret")), folding.addresses, folding.bodies)
        self.assertTrue(folding == same)
        self.assertFalse(folding != same)
        unlike = [plain(self.PROGRAM), Folding(self.PROGRAM, apart(self.PROGRAM.taken), folding.bodies),
                  Folding(program_of(func("main", "addr a f", "addr a g", "addr a h"), func("f"), func("g"),
                                     func("i"), func("h", "go 1")), folding.addresses, folding.bodies)]
        for other in unlike + ANY_VALUES[:-1] + [self.PROGRAM, Folding]:
            if not isinstance(other, Odd):
                self.assertFalse(folding == other)
                self.assertTrue(folding != other)
        one = Folding(self.PROGRAM, apart(self.PROGRAM.taken), bodies_of(self.PROGRAM, ("m.f", "m.i")))
        self.assertFalse(one == plain(self.PROGRAM))

    def test_within(self):
        folding, apart_all = self.folding(), plain(self.PROGRAM)
        bodies_alone = Folding(self.PROGRAM, apart(self.PROGRAM.taken), folding.bodies)
        more = Folding(self.PROGRAM, apart(self.PROGRAM.taken), bodies_of(self.PROGRAM, ("m.f", "m.g", "m.i")))
        order = [apart_all, bodies_alone, folding]
        for place, one in enumerate(order):
            for at, other in enumerate(order):
                self.assertIs(one.within(other), place <= at)
        self.assertIs(folding.within(other=more), False)
        self.assertIs(more.within(folding), False)
        self.assertIs(bodies_alone.within(more), True)

    def test_plain(self):
        folding = plain(program=self.PROGRAM)
        self.assertEqual((folding.addresses, folding.bodies), (apart(self.PROGRAM.taken), apart(self.PROGRAM.pieces)))
        self.assertIs(type(folding), Folding)
        self.assertEqual(plain(program_of(func("main"))).addresses, ())

    def test_all_in_their_order(self):
        found = list(foldings(program=self.PROGRAM))
        self.assertEqual([one.addresses for one in found], [(("m.f", "m.g"), ("m.h",)), apart(self.PROGRAM.taken)])
        self.assertEqual([one.bodies for one in found], [bodies_of(self.PROGRAM, ("m.f", "m.g", "m.i"))] * 2)

    def test_without_taken_pieces(self):
        program = program_of(func("main"), func("f"))
        self.assertEqual([(one.addresses, one.bodies) for one in foldings(program)], [((), (("m.f", "m.main"),))])

    def test_at_random(self):
        for program in programs_at_random(150):
            found = list(foldings(program))
            right = [(parts, Likeness(program, parts).bodies) for parts in partitions(program.taken)
                     if holds(Likeness(program, parts).bodies, parts)]
            self.assertEqual([(one.addresses, one.bodies) for one in found], right)
            self.assertEqual(found[-1].addresses, apart(program.taken))
            for one in found:
                self.assertTrue(plain(program).within(one))
                least = Folding(program, one.addresses, least_bodies(program, one.addresses))
                self.assertTrue(least.within(one))
            for one, other in itertools.product(found[:5], repeat=2):
                self.assertIs(one.within(other),
                              lies_in(one.addresses, other.addresses) and lies_in(one.bodies, other.bodies))

    def test_stable_ones_that_hold_are_legal(self):
        for program in programs_at_random(40, 4, start=900):
            for addresses in parts_of(program.taken):
                for bodies in stable_parts(program, addresses):
                    error = error_of(Folding, program, addresses, bodies)
                    self.assertEqual(error is None, holds(bodies, addresses))


if __name__ == "__main__":
    unittest.main()
