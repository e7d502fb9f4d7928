"""The smallest image, and the paper that shows that it is."""

import itertools
import unittest

from helpers import data, error_of, func, holds, long_program, parts_of, program_of, programs_at_random
from helpers import slow_notice, slow_size, stable_parts, two_joinings
from foldsame.checker import check_smallest
from foldsame.errors import LimitExceeded
from foldsame.foldings import Folding, foldings, partitions
from foldsame.images import Image
from foldsame.likeness import Likeness
from foldsame.machine import begin
from foldsame.noticing import notice, size, table
from foldsame.smallest import smallest, smallest_paper

LIMIT = (LimitExceeded, 200)
TWICE = ["addr a f", "callr a", "addr a g", "callr a"]


def slow_smallest(program):
    """The first folding of the least size among those that are not noticed."""
    found = []
    for folding in foldings(program):
        image = Image(folding)
        if slow_notice(program, image, (begin(program), begin(image))) is None:
            found.append((slow_size(image), len(found), folding))
    return min(found, key=lambda row: row[:2])[2]


class Document(unittest.TestCase):

    def test_example_of_the_document(self):
        program = two_joinings()
        self.assertEqual([notice(program, Image(one)) for one in foldings(program)], [None, ((), 0), ((), 0), None])
        self.assertEqual(smallest(program).addresses, (('m.f', 'm.g'), ('m.h', 'm.i')))
        paper = smallest_paper(program)
        self.assertEqual((check_smallest(program, paper), check_smallest(program, (paper[0], [], paper[2])), paper[2][0][0]),
                         (True, False, 'apart'))
        kinds = {}
        for addresses, entry in zip([one for one in partitions(program.taken) if one != paper[0]], paper[2]):
            kinds.setdefault(entry[0], []).append(addresses)
        self.assertEqual(kinds["noticed"], [(("m.f",), ("m.g",), ("m.h", "m.i")), (("m.f", "m.g"), ("m.h",), ("m.i",))])
        self.assertEqual(kinds["large"], [(("m.f",), ("m.g",), ("m.h",), ("m.i",))])

    def test_by_parameter_names(self):
        program = program_of(func("main"))
        self.assertEqual(smallest(program=program).addresses, smallest_paper(program=program)[0])


class Smallest(unittest.TestCase):

    def test_without_taken_pieces(self):
        program = program_of(func("main", "call f", "call g"), func("f", "tell a"), func("g", "tell a"))
        folding = smallest(program)
        self.assertEqual((folding.addresses, folding.bodies), ((), (("m.f", "m.g"), ("m.main",))))
        self.assertEqual(smallest_paper(program), ((), table(program, Image(folding)), []))

    def test_with_one(self):
        program = program_of(func("main", "addr a f", "callr a"), func("f", "tell a"))
        self.assertEqual(smallest(program).addresses, (("m.f",),))
        self.assertEqual(smallest_paper(program)[2], [])

    def test_joined_where_it_saves(self):
        program = program_of(func("main", *TWICE), func("f", "tell d"), func("g", "tell d"))
        self.assertEqual(smallest(program).addresses, (("m.f", "m.g"),))

    def test_apart_where_joining_is_noticed(self):
        program = program_of(func("main", *TWICE, "addr b f", "same a b 7", "tell c"), func("f", "tell d"),
                             func("g", "tell d"))
        self.assertEqual(smallest(program).addresses, (("m.f",), ("m.g",)))

    def test_apart_where_pieces_are_unlike(self):
        program = program_of(func("main", *TWICE), func("f", "tell d"), func("g", "tell c"))
        self.assertEqual(smallest(program).addresses, (("m.f",), ("m.g",)))

    def test_the_first_of_several_with_the_least_size(self):
        names = ["f", "g", "h"]
        main = func("main", "addr a f", "addr b g", "addr c h", "callr a")
        program = program_of(main, *[func(name, "tell d") for name in names])
        self.assertEqual([size(Image(folding)) for folding in foldings(program)], [5] * 5)
        self.assertEqual(smallest(program).addresses, (("m.f", "m.g", "m.h"),))
        # f and g are compared: where they have two addresses, all are of one size.
        main = func("main", "addr a f", "addr b g", "addr c h", "same a b 5", "tell d", "callr a")
        program = program_of(main, *[func(name, "tell d") for name in names])
        self.assertEqual([notice(program, Image(folding)) is None for folding in foldings(program)],
                         [False, True, False, True, True])
        self.assertEqual(smallest(program).addresses, (("m.f",), ("m.g", "m.h")))

    def test_what_is_called_is_joined(self):
        # f and g are compared; two are called, which need a stub if they have two addresses.
        for called, addresses in [("gh", (("m.f",), ("m.g", "m.h"))), ("fh", (("m.f", "m.h"), ("m.g",)))]:
            calls = [word for name in called for word in (f"addr c {name}", "callr c")]
            main = func("main", *calls, "addr a f", "addr b g", "same a b 8", "tell d")
            program = program_of(main, *[func(name, "tell d", "tell d") for name in "fgh"])
            images = [Image(folding) for folding in foldings(program)]
            self.assertEqual([notice(program, image) for image in images], [((), 4), None, ((), 4), None, None])
            self.assertEqual(sorted([size(image) for image in images]), [10, 10, 12, 12, 12])
            self.assertEqual(smallest(program).addresses, addresses)

    def test_like_a_slow_search(self):
        for program in programs_at_random(200):
            folding = smallest(program)
            self.assertEqual(folding, slow_smallest(program))
            self.assertEqual(folding.bodies, Likeness(program, folding.addresses).bodies)

    def test_no_smaller_one_among_all_foldings(self):
        for program in programs_at_random(100, 5, start=300):
            least = size(Image(smallest(program)))
            for addresses in parts_of(program.taken):
                for bodies in stable_parts(program, addresses):
                    if holds(bodies, addresses):
                        image = Image(Folding(program, addresses, bodies))
                        if notice(program, image) is None:
                            self.assertGreaterEqual(size(image), least)


class Papers(unittest.TestCase):

    def test_parts(self):
        for program in programs_at_random(150):
            paper = smallest_paper(program)
            folding = smallest(program)
            image = Image(folding)
            self.assertEqual([type(part) for part in (paper, *paper)], [tuple, tuple, list, list])
            self.assertEqual(paper[:2], (folding.addresses, table(program, image)))
            others = [addresses for addresses in partitions(program.taken) if addresses != folding.addresses]
            self.assertEqual(len(paper[2]), len(others))
            self.assertIs(check_smallest(program, paper), True)
            for addresses, entry in zip(others, paper[2]):
                self.check_entry(program, addresses, entry)

    def check_entry(self, program, addresses, entry):
        likeness = Likeness(program, addresses)
        if not likeness.holds:
            kind, (one, other), path = entry
            self.assertEqual((kind, path), ("apart", likeness.path(one, other)))
            self.assertTrue(any(one in part and other in part for part in addresses))
            return
        image = Image(Folding(program, addresses, likeness.bodies))
        moment = slow_notice(program, image, (begin(program), begin(image)))
        if moment is not None:
            self.assertEqual(entry, ("noticed", moment))
        else:
            self.assertEqual((entry[0], type(entry[1]), len(entry)), ("large", list, 2))

    def test_entries_of_each_kind_in_order(self):
        program = program_of(func("main", *TWICE, "addr b h", "same a b 7", "tell c"),
                             *[func(name, "tell d") for name in "fgh"], func("i", "addr a j"), data("j", "1"))
        kinds = [entry[0] for entry in smallest_paper(program)[2]]
        joined = [addresses for addresses in partitions(program.taken) if addresses != smallest(program).addresses]
        told = dict(zip(joined, kinds))
        self.assertEqual(smallest(program).addresses, (("m.f", "m.g"), ("m.h",), ("m.j",)))
        self.assertEqual(told[(("m.f", "m.g", "m.h", "m.j"),)], "apart")
        self.assertEqual(told[(("m.f", "m.g", "m.h"), ("m.j",))], "noticed")
        self.assertEqual(told[(("m.f", "m.h"), ("m.g",), ("m.j",))], "large")
        self.assertEqual(told[(("m.f",), ("m.g", "m.h"), ("m.j",))], "noticed")
        self.assertEqual(told[(("m.f",), ("m.g",), ("m.h",), ("m.j",))], "large")

    def test_new_lists_each_time(self):
        program = program_of(func("main", *TWICE), func("f", "tell d"), func("g", "tell d"))
        paper = smallest_paper(program)
        paper[2][0][1].clear()
        paper[2].clear()
        paper[1].clear()
        again = smallest_paper(program)
        self.assertIs(check_smallest(program, again), True)
        self.assertEqual((len(again[1]), len(again[2]), again[2][0][0]), (3, 1, "large"))
        self.assertGreater(len(again[2][0][1]), 0)


class Limits(unittest.TestCase):

    def both(self, program):
        found = [error_of(call, program) for call in (smallest, smallest_paper)]
        self.assertEqual(found[0], found[1])
        return found[0]

    def test_200_and_201(self):
        for many, error in [(199, None), (200, None), (201, LIMIT), (209, LIMIT)]:
            self.assertEqual(self.both(long_program(many)), error)

    def test_a_noticed_folding_within_the_limit(self):
        # The first image is noticed at once, the second one is beyond the limit.
        program = long_program(209, func("f"), func("g"), first=["addr a f", "addr b g", "same a b 0"])
        images = [Image(folding) for folding in foldings(program)]
        self.assertEqual((notice(program, images[0]), error_of(notice, program, images[1])), (((), 0), LIMIT))
        self.assertEqual(self.both(program), LIMIT)

    def test_the_size_of_a_noticed_image_is_not_looked_at(self):
        # Where both addresses are one the image runs on and on; the program ends.
        program = program_of(func("main", "addr a f", "addr b g", "same a b 5", "tell c", "ret", *["call long"] * 11),
                             func("f"), func("g"), func("long", *["call tells"] * 2), func("tells", *["tell d"] * 16))
        image = Image(list(foldings(program))[0])
        self.assertEqual((error_of(size, image), notice(program, image)), (LIMIT, ((), 1)))
        self.assertIsNone(self.both(program))
        self.assertEqual(smallest(program).addresses, (("m.f",), ("m.g",)))

    def test_six_taken_pieces(self):
        names = list("fghijk")
        rows = [word for name in names for word in (f"addr a {name}", "callr a")]
        program = program_of(func("main", *rows, "choose 0"), *[func(name, "tell d", "tell d", "tell d") for name in names])
        paper = smallest_paper(program)
        self.assertEqual((len(paper[0]), len(paper[2]), len(list(itertools.islice(foldings(program), 300)))), (1, 202, 203))
        self.assertIs(check_smallest(program, paper), True)


def six_taken(*numbers):
    """The program of six taken functions that set these numbers."""
    parts = [func(name, f"set b {number}") for name, number in zip("fghijk", numbers)]
    return program_of(func("main", "addr a f", "callr a", "tell b"), data("d", *"fghijk"), *parts)


class SixTaken(unittest.TestCase):
    """The folding, its size and the paper of two programs, as they were when each image was run by itself."""

    ALL = tuple("m." + name for name in "fghijk")
    FIRST = ((("m.main", 0),), (0, 0, 0, 0))
    SECOND = ((("m.main", 3),), (("at", "m.f"), 5, 0, 0))

    def check(self, program, addresses, bodies, entries):
        paper = smallest_paper(program)
        folding = smallest(program)
        self.assertEqual((folding.addresses, folding.bodies, size(Image(folding))), (addresses, bodies, 4))
        self.assertEqual(paper, (addresses, [(self.FIRST, self.FIRST), (self.SECOND, self.SECOND)], entries))
        self.assertEqual(paper, smallest_paper(program))
        self.assertIs(check_smallest(program, paper), True)
        for place in (0, 1, 100, 201):
            self.assertIs(check_smallest(program, (*paper[:2], entries[:place] + entries[place + 1:])), False)
        for place in range(0, 202, 20):
            for entry in [None, ("apart", ("m.f", "m.f"), ()), ("noticed", ((), 0)), ("large", []), ("large", [((), 2)])]:
                wrong = [*entries[:place], entry, *entries[place + 1:]]
                self.assertIs(check_smallest(program, (*paper[:2], wrong)), False)
        for table_of in ([], paper[1][:1], paper[1][1:]):
            self.assertIs(check_smallest(program, (addresses, table_of, entries)), False)

    def test_all_alike(self):
        self.check(six_taken(*[5] * 6), (self.ALL,), (("m.d",), self.ALL, ("m.main",)), [("large", [((), 0)])] * 202)

    def test_all_unlike(self):
        program = six_taken(*range(5, 11))
        apart = tuple((name,) for name in self.ALL)
        entries = []
        for addresses in sorted(parts_of(self.ALL), key=lambda parts: (len(parts), parts)):
            first = [part for part in addresses if len(part) > 1]
            entries.extend([("apart", part[:2], ()) for part in first[:1]])
        self.check(program, apart, (("m.d",), *apart, ("m.main",)), entries)

    def test_lists_are_new(self):
        program = six_taken(*[5] * 6)
        paper = smallest_paper(program)
        paper[2][0][1].append(None)
        paper[2][1][1].clear()
        paper[1].clear()
        again = smallest_paper(program)
        self.assertEqual((len(again[1]), again[2]), (2, [("large", [((), 0)])] * 202))

    def test_some_compared(self):
        # Each joining of f and g is noticed, whatever else is joined.
        parts = [func(name, "tell b") for name in "fghijk"]
        program = program_of(func("main", "addr a f", "addr b g", "same a b 4", "tell c", "callr a"), data("d", *"fghijk"), *parts)
        paper = smallest_paper(program)
        self.assertEqual(paper[0], (("m.f",), ("m.g", "m.h", "m.i", "m.j", "m.k")))
        every = partitions(program.taken)
        others = [addresses for addresses in every if addresses != paper[0]]
        for addresses, entry in zip(others, paper[2]):
            one = any("m.f" in part and "m.g" in part for part in addresses)
            self.assertEqual(entry, ("noticed", ((), 0)) if one else ("large", [((), 1)]))
        self.assertIs(check_smallest(program, paper), True)
        for place in range(0, 202, 9):
            noticed = paper[2][place][0] == "noticed"
            entry = ("large", [((), 0)]) if noticed else ("noticed", ((), 0))
            # All images have one size: those ahead of the smallest are not larger.
            right = noticed and place >= every.index(paper[0])
            changed = [*paper[2][:place], entry, *paper[2][place + 1:]]
            self.assertIs(check_smallest(program, (*paper[:2], changed)), right, place)


if __name__ == "__main__":
    unittest.main()
