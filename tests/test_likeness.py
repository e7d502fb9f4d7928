"""Likeness: partitions, the greatest and the least stable one, paths, and their checks."""

import itertools
import unittest

from helpers import ANY_VALUES, NO_FULL_NAMES, Odd, agrees, data, error_of, func, holds, lies_in, parts_of
from helpers import program_of, programs_at_random, stable_parts, together_in
from foldsame.errors import BadValue, UnknownName
from foldsame.likeness import Likeness, check_likeness, check_path, is_partition, least_bodies
from foldsame.programs import Program

MAIN = func("main")


def apart(names):
    return tuple([(name,) for name in names])


def likeness_of(*parts, alone=()):
    """The Likeness of a program of these parts, all addresses apart."""
    program = program_of(MAIN, *parts)
    return Likeness(program, apart(program.taken), alone=alone)


def right_paths(program, addresses, one, other, longest, alone=()):
    """All right paths of at most this length, in their order, as [6] says it."""
    found = []
    nothing = (tuple(program.pieces),)
    if one != other and (one in alone or other in alone or not agrees(program, addresses, nothing, one, other)):
        found.append(())
    if longest == 0 or one == other or "data" in (program.kind_of(one), program.kind_of(other)):
        return found
    for number, (row, its) in enumerate(zip(program.rows_of(one), program.rows_of(other))):
        if row[0] == its[0] and row[0] in ("call", "read"):
            place = {"call": 1, "read": 2}[row[0]]
            onward = right_paths(program, addresses, row[place], its[place], longest - 1, alone)
            found.extend([(number, *path) for path in onward])
    return sorted(found, key=lambda path: (len(path), path))


class Partitions(unittest.TestCase):

    PIECES = ("m.a1", "m.b1", "m.c1")

    def test_all_of_three(self):
        right = parts_of(self.PIECES)
        self.assertEqual(len(right), 5)
        for value in right:
            self.assertIs(is_partition(self.PIECES, value), True, value)

    def test_none(self):
        self.assertIs(is_partition((), ()), True)
        for value in [((),), (("m.a1",),), [], None]:
            self.assertIs(is_partition((), value), False)

    def test_wrong_ones(self):
        a, b, c = self.PIECES
        wrong = [((a, b),), ((a, b), (c,), ()), ((), (a, b, c)), ((a, c, b),), ((b, a), (c,)), ((c,), (a, b)),
                 ((a,), (c,), (b,)), ((a, b), (b, c)), ((a, a, b, c),), ((a,), (a,), (b,), (c,)), (a, b, c),
                 [(a, b, c)], ([a, b, c],), (([a], b, c),), ((a, b, c, "m.d1"),), ((a, b, "m.d1"),), ((a, b, None),),
                 ((a, b), c), ((a, b), (c, None)), ((a, b, c), None), ((a, b, Odd()),), (Odd(),), ((a, b), Odd()),
                 ((a, b), "m.c1"), (a, (b, c)), ((a, b), ((c,),)), ()]
        for value in wrong + ANY_VALUES:
            self.assertIs(is_partition(self.PIECES, value), False, repr(value))

    def test_by_parameter_names(self):
        self.assertIs(is_partition(value=((("m.f"),),), pieces=("m.f",)), True)


class Document(unittest.TestCase):

    def test_example_of_the_document(self):
        main = 'export main\nfunc main\ncall f\nend\nfunc f\ntell a\ncall g\nend\nfunc g\ntell a\ncall f\nend'
        program = Program({'m': main + '\nfunc h\ntell b\ncall f\nend\nfunc i\ntell a\ncall h\nend'})
        likeness = Likeness(program, ())
        self.assertEqual((likeness.bodies, likeness.path('m.f', 'm.h'), likeness.path('m.f', 'm.i')),
                         ((('m.f', 'm.g'), ('m.h',), ('m.i',), ('m.main',)), (), (1,)))


class Greatest(unittest.TestCase):

    def test_rings_of_calls(self):
        ring = [func(name, "tell a", "call " + to) for name, to in ["fg", "gh", "hf"]]
        likeness = likeness_of(*ring, func("i", "tell a", "call i"))
        self.assertEqual(likeness.bodies, (("m.f", "m.g", "m.h", "m.i"), ("m.main",)))
        likeness = likeness_of(*ring[:2], func("h", "tell b", "call f"), func("i", "tell a", "call i"))
        self.assertEqual(likeness.bodies, apart(("m.f", "m.g", "m.h", "m.i", "m.main")))

    def test_two_rings_of_unlike_lengths(self):
        likeness = likeness_of(func("f", "call g", "tell a"), func("g", "call f", "tell b"), func("h", "call i", "tell a"),
                               func("i", "call j", "tell b"), func("j", "call k", "tell a"), func("k", "call h", "tell b"))
        self.assertEqual(likeness.bodies, (("m.f", "m.h", "m.j"), ("m.g", "m.i", "m.k"), ("m.main",)))

    def check_at_once(self, one, other, alike=False):
        likeness = likeness_of(*one, *other)
        self.assertEqual(("m.f", "m.g") in likeness, alike)
        self.assertEqual(likeness.path("m.f", "m.g"), None if alike else ())
        self.assertEqual(likeness.path("m.g", "m.f"), None if alike else ())

    def test_kinds(self):
        self.check_at_once([func("f")], [data("g")])
        self.check_at_once([data("f")], [data("g")], True)
        self.check_at_once([func("f")], [func("g")], True)

    def test_numbers_of_rows(self):
        self.check_at_once([func("f", "ret")], [func("g")])
        self.check_at_once([func("f", "ret")], [func("g", "ret", "ret")])
        self.check_at_once([data("f", "1")], [data("g", "1", "1")])

    def test_words(self):
        for one, other in [("ret", "go 1"), ("tell a", "tell b"), ("set a 1", "set a 2"), ("set a 1", "set b 1"),
                           ("go 0", "go 1"), ("choose 0", "go 0"), ("same a b 0", "same a c 0"),
                           ("same a b 0", "same a b 1"), ("move a b", "move b a"), ("callr a", "callr b"),
                           ("readr a b 0", "readr a b 1"), ("readr a b 0", "readr a c 0"), ("callr a", "tell a")]:
            self.check_at_once([func("f", one)], [func("g", other)])
            self.check_at_once([func("f", one)], [func("g", one)], True)

    def test_words_beside_names(self):
        x = data("x", "1", "2")
        for one, other in [("read a x 0", "read b x 0"), ("read a x 0", "read a x 1"), ("addr a x", "addr b x"),
                           ("addr a x", "read a x 0"), ("call main", "callr a")]:
            self.check_at_once([func("f", one)], [func("g", other), x])
            self.check_at_once([func("f", one)], [func("g", one), x], True)

    def test_words_of_data(self):
        self.check_at_once([data("f", "1", "2")], [data("g", "1", "3")])
        self.check_at_once([data("f", "1", "main")], [data("g", "1", "2")])
        self.check_at_once([data("f", "1", "main")], [data("g", "1", "main")], True)
        self.check_at_once([data("f", "main")], [data("g", "f")])

    def test_addresses(self):
        program = program_of(MAIN, func("f", "addr a h"), func("g", "addr a i"), func("h"), func("i"), data("x", "h"),
                             data("y", "i"))
        one, both = (("m.h",), ("m.i",)), (("m.h", "m.i"),)
        self.assertEqual(Likeness(program, one).bodies,
                         (("m.f",), ("m.g",), ("m.h", "m.i", "m.main"), ("m.x",), ("m.y",)))
        self.assertEqual(Likeness(program, both).bodies,
                         (("m.f", "m.g"), ("m.h", "m.i", "m.main"), ("m.x", "m.y")))
        self.assertEqual(Likeness(program, one).path("m.f", "m.g"), ())
        self.assertEqual(Likeness(program, one).path("m.x", "m.y"), ())

    def test_reads_by_name(self):
        likeness = likeness_of(func("f", "read a x 0"), func("g", "read a y 0"), data("x", "1"), data("y", "1"))
        self.assertIn(("m.f", "m.g"), likeness)
        likeness = likeness_of(func("f", "read a x 0"), func("g", "read a y 0"), data("x", "1"), data("y", "2"))
        self.assertEqual(likeness.path("m.f", "m.g"), (0,))

    def test_alone(self):
        parts = [func("f"), func("g"), func("h"), func("i", "call f"), func("j", "call g"), func("k", "call h")]
        likeness = likeness_of(*parts, alone=("m.g",))
        self.assertEqual(likeness.bodies,
                         (("m.f", "m.h", "m.main"), ("m.g",), ("m.i", "m.k"), ("m.j",)))
        self.assertEqual((likeness.path("m.f", "m.g"), likeness.path("m.j", "m.i"), likeness.path("m.i", "m.k")),
                         ((), (0,), None))
        self.assertIsNone(likeness.path("m.g", "m.g"))
        self.assertEqual(likeness_of(*parts, alone=("m.main", "m.g", "m.f")).bodies,
                         (("m.f",), ("m.g",), ("m.h",), ("m.i",), ("m.j",), ("m.k",), ("m.main",)))

    def test_attributes(self):
        program = program_of(func("main", "addr a f"), func("f"), func("g"))
        addresses, alone = (("m.f",),), ("m.g", "m.f")
        likeness = Likeness(addresses=addresses, program=program, alone=alone)
        self.assertIs(likeness.program, program)
        self.assertEqual((likeness.addresses, likeness.alone), (addresses, alone))
        self.assertEqual((likeness.bodies, len(likeness), list(likeness)),
                         (apart(program.pieces), 3, list(apart(program.pieces))))
        with self.assertRaises(TypeError):
            Likeness(program, addresses, alone)

    def test_holds(self):
        program = program_of(func("main", "addr a f", "addr a g", "addr a h"), func("f"), func("g"), func("h", "ret"))
        for addresses, right in [((("m.f", "m.g"), ("m.h",)), True), (apart(program.taken), True),
                                 ((("m.f", "m.h"), ("m.g",)), False), ((("m.f", "m.g", "m.h"),), False)]:
            self.assertIs(Likeness(program, addresses).holds, right)
        self.assertIs(Likeness(program, (("m.f", "m.g"), ("m.h",)), alone=("m.g",)).holds, False)
        self.assertIs(Likeness(program_of(MAIN), ()).holds, True)

    def test_pairs_within(self):
        likeness = likeness_of(func("f"), func("g", "ret"))
        for pair, right in [(("m.f", "m.main"), True), (("m.main", "m.f"), True), (("m.f", "m.f"), True),
                            (("m.f", "m.g"), False), (("m.g", "m.f"), False), (("m.f", "m.none"), False)]:
            self.assertIs(pair in likeness, right)
        for value in ANY_VALUES + [["m.f", "m.main"], ("m.f", "m.main", "m.f"), ("m.f", ["m.main"])]:
            self.assertIs(value in likeness, False, repr(value))

    def test_like_a_search_of_all_partitions(self):
        for program in programs_at_random(120, 5):
            for addresses in parts_of(program.taken)[:6]:
                for alone in [(), program.pieces[:1], (program.pieces[-1], program.pieces[1])]:
                    likeness = Likeness(program, addresses, alone=alone)
                    stable = stable_parts(program, addresses, alone)
                    self.assertIn(likeness.bodies, stable)
                    self.assertTrue(all(lies_in(parts, likeness.bodies) for parts in stable))
                    self.assertIs(likeness.holds, holds(likeness.bodies, addresses))
                    for one, other in itertools.product(program.pieces, repeat=2):
                        self.assertIs((one, other) in likeness, together_in(likeness.bodies, one, other))


class Paths(unittest.TestCase):

    def test_lengths(self):
        parts = [func("a1", "tell a"), func("b1", "tell b")]
        for place in range(1, 5):
            parts += [func(f"a{place + 1}", "set a 1", f"call a{place}"), func(f"b{place + 1}", "set a 1", f"call b{place}")]
        likeness = likeness_of(*parts)
        for place in range(1, 6):
            self.assertEqual(likeness.path(f"m.a{place}", f"m.b{place}"), (1,) * (place - 1))
        self.assertEqual(likeness.path("m.a1", "m.a2"), ())
        self.assertEqual(likeness.path("m.a2", "m.a3"), (1,))
        self.assertEqual(likeness.path("m.b3", "m.a5"), (1, 1))

    def test_one_pair_alone_of_each_length(self):
        parts = [func("a1", "tell a"), func("b1", "tell b"), func("a2", "call a1"), func("b2", "call b1"),
                 func("a3", "ret", "call a2"), func("b3", "ret", "call b2"), func("a4", "ret", "ret", "call a3"),
                 func("b4", "ret", "ret", "call b3")]
        likeness = likeness_of(*parts)
        self.assertEqual([likeness.path(f"m.a{place}", f"m.b{place}") for place in range(1, 5)],
                         [(), (0,), (1, 0), (2, 1, 0)])
        self.assertEqual(len(likeness), 9)

    def test_several_of_the_same_length(self):
        parts = [func("f", "call h", "call i", "call i"), func("g", "call h", "call j", "call k"), func("h", "ret"),
                 func("i", "tell a"), func("j", "tell b"), func("k", "tell c")]
        self.assertEqual(likeness_of(*parts).path("m.f", "m.g"), (1,))
        parts = [func("f", "call h", "call i"), func("g", "call i", "call h"), func("h", "call main", "call j"),
                 func("i", "call main", "call k"), func("j", "tell a"), func("k", "tell b")]
        self.assertEqual(likeness_of(*parts).path("m.f", "m.g"), (0, 1))

    def test_a_shorter_one_behind_a_longer_one(self):
        parts = [func("f", "call h", "call j"), func("g", "call i", "call k"), func("h", "call j"), func("i", "call k"),
                 func("j", "tell a"), func("k", "tell b")]
        likeness = likeness_of(*parts)
        self.assertEqual((likeness.path("m.f", "m.g"), likeness.path("m.h", "m.i")), ((1,), (0,)))

    def test_none_within_a_body(self):
        likeness = likeness_of(func("f", "call g"), func("g", "call f"))
        self.assertIsNone(likeness.path("m.f", "m.g"))
        self.assertIsNone(likeness.path("m.f", "m.f"))

    def test_like_a_search_of_all_paths(self):
        for program in programs_at_random(80, 6):
            addresses = apart(program.taken)
            for alone in [(), program.pieces[:1]]:
                likeness = Likeness(program, addresses, alone=alone)
                for one, other in itertools.product(program.pieces, repeat=2):
                    right = right_paths(program, addresses, one, other, 4, alone)
                    path = likeness.path(one, other)
                    if right:
                        self.assertEqual(path, right[0])
                    else:
                        self.assertTrue(path is None or len(path) > 4)
                    if path is None:
                        self.assertTrue(together_in(likeness.bodies, one, other))
                    self.assertEqual(likeness.path(other=one, one=other), path)

    def test_unknown_names(self):
        likeness = likeness_of(func("f"))
        for value in NO_FULL_NAMES:
            for pair in [(value, "m.f"), ("m.f", value), (value, []), (value, value)]:
                with self.assertRaises(UnknownName) as caught:
                    likeness.path(*pair)
                self.assertIs(caught.exception.value, value)


class Papers(unittest.TestCase):

    def test_order(self):
        program = program_of(func("main", "ret"), func("f", "tell a"), func("g", "tell a"), func("h", "call f"),
                             func("i", "call main"))
        bodies = (("m.f", "m.g"), ("m.h",), ("m.i",), ("m.main",))
        paths = (("m.f", "m.h", ()), ("m.f", "m.i", ()), ("m.f", "m.main", ()), ("m.h", "m.i", (0,)),
                 ("m.h", "m.main", ()), ("m.i", "m.main", ()))
        self.assertEqual(Likeness(program, ()).paper(), (bodies, paths))

    def test_of_one_body(self):
        self.assertEqual(likeness_of(func("f")).paper(), ((("m.f", "m.main"),), ()))

    def test_right_at_random(self):
        for program in programs_at_random(100):
            for addresses in parts_of(program.taken)[:4]:
                for alone in [(), program.pieces[1:2]]:
                    likeness = Likeness(program, addresses, alone=alone)
                    paper = likeness.paper()
                    firsts = [part[0] for part in likeness.bodies]
                    pairs = list(itertools.combinations(firsts, 2))
                    self.assertEqual(paper, (likeness.bodies, tuple([(*pair, likeness.path(*pair)) for pair in pairs])))
                    self.assertIs(check_likeness(program, addresses, paper, alone=alone), True)
                    for one, other, path in paper[1]:
                        self.assertIs(check_path(program, addresses, other, one, path, alone=alone), True)


class Least(unittest.TestCase):

    def test_where_the_greatest_holds(self):
        program = program_of(func("main", "addr a f", "addr a g"), func("f", "call h"), func("g", "call i"), func("h"),
                             func("i"), func("j"))
        self.assertEqual(least_bodies(program, (("m.f", "m.g"),)),
                         (("m.f", "m.g"), ("m.h", "m.i"), ("m.j",), ("m.main",)))
        self.assertEqual(least_bodies(program, (("m.f",), ("m.g",))), apart(program.pieces))

    def test_by_way_of_others(self):
        program = program_of(func("main", "addr a f", "addr a g", "addr a h"), func("f", "call g"), func("g", "call h"),
                             func("h", "call i"), func("i", "call f"))
        self.assertEqual(least_bodies(program, (("m.f", "m.h"), ("m.g",))),
                         (("m.f", "m.h"), ("m.g", "m.i"), ("m.main",)))
        self.assertEqual(least_bodies(program, (("m.f", "m.g"), ("m.h",))),
                         (("m.f", "m.g", "m.h", "m.i"), ("m.main",)))

    def test_reads(self):
        program = program_of(func("main", "addr a f", "addr a g"), func("f", "read a x 0"), func("g", "read a y 0"),
                             data("x", "1"), data("y", "1"), data("z", "1"))
        self.assertEqual(least_bodies(program, (("m.f", "m.g"),)),
                         (("m.f", "m.g"), ("m.main",), ("m.x", "m.y"), ("m.z",)))

    def test_where_it_does_not(self):
        program = program_of(func("main", "addr a f", "addr a g"), func("f", "call h"), func("g", "call i"),
                             func("h", "tell a"), func("i"))
        self.assertIsNone(least_bodies(program, (("m.f", "m.g"),)))
        self.assertEqual(least_bodies(addresses=(("m.f",), ("m.g",)), program=program), apart(program.pieces))

    def test_like_a_search_of_all_partitions(self):
        for program in programs_at_random(120, 5):
            for addresses in parts_of(program.taken)[:8]:
                holding = [parts for parts in stable_parts(program, addresses) if holds(parts, addresses)]
                least = least_bodies(program, addresses)
                if holding:
                    self.assertIn(least, holding)
                    self.assertTrue(all(lies_in(least, parts) for parts in holding))
                else:
                    self.assertIsNone(least)


class CheckPath(unittest.TestCase):

    PROGRAM = program_of(func("main", "call f", "addr a f", "addr a x"), func("f", "call h", "set a 1", "read a x 0", "call h"),
                         func("g", "call i", "set a 1", "read a y 0", "call h"), func("h", "call j"), func("i", "call k"),
                         func("j", "tell a"), func("k", "tell b"), data("x", "1"), data("y", "2"))
    ADDRESSES = (("m.f",), ("m.x",))

    def check(self, one, other, value, alone=()):
        return check_path(self.PROGRAM, self.ADDRESSES, one, other, value, alone=alone)

    def test_right_ones_that_are_not_the_least(self):
        for path in [(2,), (0, 0)]:
            self.assertIs(self.check("m.f", "m.g", path), True)
            self.assertIs(self.check("m.g", "m.f", path), True)

    def test_also_where_rows_beside_it_are_unlike(self):
        program = program_of(func("main", "call f", "tell a"), func("f", "call g"), func("g", "ret"))
        self.assertIs(check_path(program, (), "m.main", "m.f", ()), True)
        self.assertIs(check_path(program, (), "m.main", "m.f", (0,)), True)
        program = program_of(func("main", "read a x 0"), func("f", "read b y 1"), data("x", "1"), data("y", "1", "1"))
        self.assertIs(check_path(program, (), "m.main", "m.f", (0,)), True)

    def test_wrong_in_one_place(self):
        for path in [(), (0,), (1,), (3,), (4,), (-1,), (-2,), (2, 0), (0, 1), (0, 0, 0), (0, -1), (99,), (10 ** 20,), (2, 2)]:
            self.assertIs(self.check("m.f", "m.g", path), False, path)

    def test_of_alike_pieces(self):
        program = program_of(MAIN, func("f", "call g"), func("g", "call f"))
        for path in [(), (0,), (0, 0), (0,) * 9]:
            self.assertIs(check_path(program, (), "m.f", "m.g", path), False)
            self.assertIs(check_path(program, (), "m.f", "m.f", path), False)
            self.assertIs(check_path(program, (), "m.f", "m.f", path, alone=("m.f", "m.g")), False)

    def test_to_the_same_piece(self):
        self.assertIs(self.check("m.f", "m.g", (3,), alone=("m.h",)), False)
        self.assertIs(self.check("m.f", "m.g", (3, 0), alone=("m.h",)), False)
        self.assertIs(self.check("m.f", "m.g", (3, 0), alone=("m.j",)), False)

    def test_call_beside_read(self):
        program = program_of(func("main", "call f", "read a x 0"), func("f", "read a x 0", "call main"), data("x", "1"))
        for path in [(0,), (1,)]:
            self.assertIs(check_path(program, (), "m.main", "m.f", path), False)

    def test_rows_that_only_one_has(self):
        program = program_of(func("main", "tell a", "call f"), func("f", "tell a"), data("x", "f", "f"))
        for one, other in [("m.main", "m.f"), ("m.main", "m.x"), ("m.x", "m.f")]:
            for path in [(0,), (1,), (2,)]:
                self.assertIs(check_path(program, (("m.f",),), one, other, path), False)

    def test_alone(self):
        for pair in [("m.h", "m.j"), ("m.j", "m.h")]:
            self.assertIs(self.check(*pair, (), alone=("m.h",)), True)
        program = program_of(MAIN, func("f", "call h"), func("g", "call i"), func("h"), func("i"))
        self.assertIs(check_path(program, (), "m.f", "m.g", (0,)), False)
        self.assertIs(check_path(program, (), "m.f", "m.g", (0,), alone=("m.i",)), True)
        self.assertIs(check_path(program, (), "m.f", "m.g", (), alone=("m.i",)), False)

    def test_values_of_any_kind(self):
        wrong = [[2], (2.0,), (True,), (False, False), ("2",), ((2,),), "2", 2, (2, None), (None,), (Odd(),), range(1), {2},
                 ([2],), (b"2",)]
        for value in ANY_VALUES + wrong:
            self.assertIs(self.check("m.f", "m.g", value), False, repr(value))

    def test_like_a_search_of_all_paths(self):
        for program in programs_at_random(40, 5):
            addresses = apart(program.taken)
            values = [path for many in range(3) for path in itertools.product(range(-1, 4), repeat=many)]
            for one, other in itertools.product(program.pieces, repeat=2):
                for alone in [(), program.pieces[-1:]]:
                    right = right_paths(program, addresses, one, other, 2, alone)
                    found = [value for value in values
                             if check_path(program, addresses, one, other, value, alone=alone)]
                    self.assertEqual(found, [path for path in right if all(number < 4 for number in path)])


class CheckLikeness(unittest.TestCase):

    PROGRAM = program_of(func("main", "addr a f", "addr a g", "tell a"), func("f", "call h"), func("g", "call i"),
                         func("h", "tell a"), func("i", "tell a"), func("j", "call k"), func("k", "tell b"))
    ADDRESSES = (("m.f", "m.g"),)
    BODIES = (("m.f", "m.g"), ("m.h", "m.i"), ("m.j",), ("m.k",), ("m.main",))

    def paths(self):
        return Likeness(self.PROGRAM, self.ADDRESSES).paper()[1]

    def check(self, bodies, paths, alone=()):
        return check_likeness(self.PROGRAM, self.ADDRESSES, (bodies, paths), alone=alone)

    def test_papers_of_another_author(self):
        paths = self.paths()
        self.assertEqual(len(paths), 10)
        self.assertIs(self.check(self.BODIES, paths), True)
        self.assertIs(self.check(self.BODIES, paths[::-1]), True)
        self.assertIs(self.check(self.BODIES, tuple([(other, one, path) for one, other, path in paths])), True)
        self.assertIs(self.check(self.BODIES, paths + paths + (("m.g", "m.i", ()),)), True)
        others = {"m.f": "m.g", "m.h": "m.i"}
        moved = tuple([(others.get(one, one), others.get(other, other), path) for one, other, path in paths])
        self.assertIs(self.check(self.BODIES, moved), True)

    def test_without_one_path(self):
        paths = self.paths()
        for place in range(len(paths)):
            self.assertIs(self.check(self.BODIES, paths[:place] + paths[place + 1:]), False)

    def test_with_a_wrong_path_more(self):
        for entry in [("m.f", "m.g", ()), ("m.f", "m.g", (0,)), ("m.f", "m.f", ()), ("m.f", "m.h", (0,)),
                      ("m.f", "m.j", ()), ("m.none", "m.f", ()), ("m.f", "m.none", ()), ("m.f", "m.h"),
                      ("m.f", "m.h", (), ()), ["m.f", "m.h", ()], ("m.f", "m.h", []), (["m.f"], "m.h", ()), None]:
            for paths in [self.paths() + (entry,), (entry,) + self.paths()]:
                self.assertIs(self.check(self.BODIES, paths), False, entry)

    def test_stable_but_not_the_greatest(self):
        finer = (("m.f", "m.g"), ("m.h",), ("m.i",), ("m.j",), ("m.k",), ("m.main",))
        self.assertIs(self.check(finer, self.paths()), False)
        finer = (("m.f",), ("m.g",), ("m.h", "m.i"), ("m.j",), ("m.k",), ("m.main",))
        self.assertIs(self.check(finer, self.paths()), False)

    def test_not_stable(self):
        for bodies in [(("m.f", "m.g", "m.j"), ("m.h", "m.i", "m.k"), ("m.main",)), (self.PROGRAM.pieces,),
                       (("m.f", "m.g", "m.j"), ("m.h", "m.i"), ("m.k",), ("m.main",))]:
            self.assertIs(self.check(bodies, self.paths()), False)
        apart_paths = Likeness(self.PROGRAM, self.ADDRESSES, alone=("m.h",)).paper()[1]
        self.assertIs(self.check((("m.f", "m.g"), ("m.h",), ("m.i",), ("m.j",), ("m.k",), ("m.main",)), apart_paths,
                                 alone=("m.h",)), False)

    def test_no_partitions(self):
        for bodies in [self.BODIES[::-1], self.BODIES[1:], self.BODIES + (("m.l",),), list(self.BODIES), None, (), self.ADDRESSES]:
            self.assertIs(self.check(bodies, self.paths()), False)

    def test_alone(self):
        paper = Likeness(self.PROGRAM, self.ADDRESSES, alone=("m.i",)).paper()
        self.assertIs(self.check(*paper, alone=("m.i",)), True)
        self.assertIs(self.check(*paper), False)
        self.assertIs(self.check(self.BODIES, self.paths(), alone=("m.i",)), False)
        self.assertIs(self.check(self.BODIES, self.paths(), alone=("m.main", "m.k")), True)

    def test_values_of_any_kind(self):
        paths = self.paths()
        wrong = [(self.BODIES, list(paths)), [self.BODIES, paths], (self.BODIES,), (self.BODIES, paths, ()), self.BODIES,
                 (paths, self.BODIES), (self.BODIES, None), (self.BODIES, "m"), (self.BODIES, {}), (self.BODIES, Odd()),
                 (self.BODIES, (Odd(),)), (self.BODIES, paths + (Odd(),)), (self.BODIES, ((Odd(), Odd(), Odd()),))]
        for value in ANY_VALUES + wrong:
            self.assertIs(check_likeness(self.PROGRAM, self.ADDRESSES, value), False, repr(value))

    def test_no_stable_partition_but_the_greatest_has_paths(self):
        for program in programs_at_random(60, 5):
            addresses = apart(program.taken)
            bodies, paths = Likeness(program, addresses).paper()
            for parts in parts_of(program.pieces):
                self.assertIs(check_likeness(program, addresses, (parts, paths)), parts == bodies)


class Errors(unittest.TestCase):

    PROGRAM = program_of(func("main", "addr a f", "addr a g"), func("f"), func("g"))
    RIGHT = (("m.f",), ("m.g",))
    NO_ADDRESSES = [(), (("m.f",),), (("m.g",), ("m.f",)), (("m.f", "m.g"), ("m.main",)), [("m.f",), ("m.g",)],
                    ("m.f", "m.g"), None, 0, "m.f", {}, Odd(), (("m.f",), ("m.g",), ()), (("m.f",), Odd())]
    NO_ALONE = [["m.f"], "m.f", ("m.f", "m.f"), ("m.none",), ("f",), ("m.f", None), (("m.f",),), None, 0, {}, {"m.f"},
                (Odd(),), Odd(), ("m.f", ["m.g"])]

    def check_error(self, wanted, value, call, *given, **named):
        with self.assertRaises(wanted) as caught:
            call(*given, **named)
        self.assertIs(caught.exception.value, value)

    def test_addresses_first(self):
        for value in self.NO_ADDRESSES:
            self.check_error(BadValue, value, Likeness, self.PROGRAM, value)
            self.check_error(BadValue, value, Likeness, self.PROGRAM, value, alone=("none",))
            self.check_error(BadValue, value, least_bodies, self.PROGRAM, value)
            self.check_error(BadValue, value, check_path, self.PROGRAM, value, "none", [], None, alone=3)
            self.check_error(BadValue, value, check_likeness, self.PROGRAM, value, None, alone=3)

    def test_alone_second(self):
        for value in self.NO_ALONE:
            self.check_error(BadValue, value, Likeness, self.PROGRAM, self.RIGHT, alone=value)
            self.check_error(BadValue, value, check_path, self.PROGRAM, self.RIGHT, "none", [], None, alone=value)
            self.check_error(BadValue, value, check_likeness, self.PROGRAM, self.RIGHT, None, alone=value)

    def test_names_last(self):
        for value in NO_FULL_NAMES:
            self.check_error(UnknownName, value, check_path, self.PROGRAM, self.RIGHT, value, [], None)
            self.check_error(UnknownName, value, check_path, self.PROGRAM, self.RIGHT, "m.f", value, None)
            self.check_error(UnknownName, value, check_path, self.PROGRAM, self.RIGHT, "m.f", value, (), alone=("m.f",))

    def test_an_untaken_piece_is_no_address(self):
        program = program_of(func("main"), func("f"))
        self.assertEqual(error_of(Likeness, program, (("m.f",),)), (BadValue, (("m.f",),)))


if __name__ == "__main__":
    unittest.main()
