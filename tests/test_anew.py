"""What leads to what, likeness and links that are made from old ones."""

import itertools
import random
import unittest

from helpers import ANY_VALUES, NO_FULL_NAMES, Odd, branching_program, branching_programs, data, error_of, func, long_program
from helpers import main_of, program_of, programs_at_random, two_joinings
from foldsame.anew import Anew, Link, leading
from foldsame.checker import check_moment, check_smallest
from foldsame.errors import BadValue, LimitExceeded, UnknownName
from foldsame.foldings import Folding, foldings, partitions
from foldsame.images import Image
from foldsame.likeness import Likeness, check_likeness
from foldsame.noticing import notice, size
from foldsame.smallest import smallest, smallest_paper

LIMIT = (LimitExceeded, 200)


class Leading(unittest.TestCase):

    PROGRAM = program_of(func("main", "call f", "addr a h"), func("f", "call g"), func("g", "call f", "read a d 0"),
                         func("h", "call h"), func("i", "addr a d"), data("d", "1"), data("e", "d"))

    def test_by_calls_and_reads(self):
        for names, wanted in [(("m.main",), ("m.main",)), (("m.f",), ("m.f", "m.g", "m.main")),
                              (("m.d",), ("m.d", "m.f", "m.g", "m.main")), (("m.h",), ("m.h",)), (("m.i",), ("m.i",)),
                              (("m.h", "m.d"), ("m.d", "m.f", "m.g", "m.h", "m.main")), ((), ()), (("m.e", "m.e"), ("m.e",))]:
            self.assertEqual(leading(self.PROGRAM, names), wanted)
            self.assertEqual(leading(self.PROGRAM, list(names)), wanted)

    def test_rings(self):
        program = program_of(func("main", "call f"), func("f", "call g"), func("g", "call h"), func("h", "call f"), func("i"))
        for name in ("m.f", "m.g", "m.h"):
            self.assertEqual(leading(program, [name]), ("m.f", "m.g", "m.h", "m.main"))

    def test_unknown_names(self):
        for value in [value for value in [*NO_FULL_NAMES, *ANY_VALUES] if isinstance(value, Odd) or value != "m.f"]:
            for names in ([value], ("m.f", value, "m.none"), ["m.main", value, None]):
                found = error_of(leading, self.PROGRAM, names)
                self.assertIs(found[0], UnknownName)
                self.assertIs(found[1], value)

    def test_at_random(self):
        for program in programs_at_random(60, start=70):
            for name in program.pieces:
                wanted = {name}
                for _ in program.pieces:
                    wanted |= {one for one in program.pieces if program.kind_of(one) == "func" for row in program.rows_of(one)
                               if row[0] in ("call", "read") and row[{"call": 1, "read": 2}[row[0]]] in wanted}
                self.assertEqual(leading(program, (name,)), tuple(sorted(wanted)))


def slow_touched(old, program, addresses, alone):
    """The touched pieces, as the document says it."""
    def part(partition, name):
        return [one for one in partition if name in one]

    touched = set()
    for name in program.pieces:
        if name not in old.program.pieces or (name in alone) != (name in old.alone):
            touched.add(name)
        elif (old.program.kind_of(name), old.program.rows_of(name)) != (program.kind_of(name), program.rows_of(name)):
            touched.add(name)
        else:
            for row in program.rows_of(name):
                other = row[2] if isinstance(row, tuple) and row[0] == "addr" else row
                if isinstance(other, str) and part(addresses, other) != part(old.addresses, other):
                    touched.add(name)
    return leading(program, sorted(touched))


class Touched(unittest.TestCase):

    MAIN = func("main", "call f", "call k")
    PARTS = [func("f", "call g"), func("g", "addr a t"), func("h", "addr a u"), func("k"), func("t"), func("u"), data("d", "t")]
    OLD = program_of(MAIN, *PARTS)
    APART = (("m.t",), ("m.u",))

    def touched(self, parts, addresses=APART, alone=(), old_addresses=APART, old_alone=()):
        program = program_of(*parts)
        old = Likeness(self.OLD, old_addresses, alone=old_alone)
        anew, whole = Anew(old, program, addresses, alone=alone), Likeness(program, addresses, alone=alone)
        for pair in itertools.product(program.pieces, repeat=2):
            self.assertEqual(anew.path(*pair), whole.path(*pair))
        self.assertEqual((anew.bodies, anew.paper(), anew.holds), (whole.bodies, whole.paper(), whole.holds))
        return anew.touched

    def test_nothing(self):
        self.assertEqual(self.touched([self.MAIN, *self.PARTS]), ())
        self.assertEqual(self.touched([self.MAIN, *self.PARTS[::-1]]), ())

    def test_a_new_piece(self):
        self.assertEqual(self.touched([self.MAIN, *self.PARTS, func("x")]), ("m.x",))
        self.assertEqual(self.touched([self.MAIN, *self.PARTS, func("x", "call f")]), ("m.x",))

    def test_a_piece_that_is_gone(self):
        parts = [part for part in self.PARTS if not part.startswith("func h")]
        program_parts = [self.MAIN, *parts, data("z", "u")]
        self.assertEqual(self.touched(program_parts), ("m.z",))

    def test_another_kind(self):
        self.assertEqual(self.touched([self.MAIN, *self.PARTS[:-1], func("d")]), ("m.d",))
        # The rows of an empty function are those of empty data.
        old = Likeness(program_of(func("main", "addr a x"), func("x")), (("m.x",),))
        program = program_of(func("main", "addr a x"), data("x"))
        self.assertEqual(Anew(old, program, (("m.x",),)).touched, ("m.x",))

    def test_other_rows(self):
        self.assertEqual(self.touched([self.MAIN, func("f", "call g"), func("g", "addr b t"), *self.PARTS[2:]]),
                         ("m.f", "m.g", "m.main"))
        self.assertEqual(self.touched([self.MAIN, *self.PARTS[:-1], data("d", "u")]), ("m.d",))
        # A name that means another piece makes other rows.
        one = [self.MAIN, *self.PARTS, "alias q t"]
        self.assertEqual(self.touched(one), ())

    def test_alone_in_one_alone(self):
        whole = [self.MAIN, *self.PARTS]
        self.assertEqual(self.touched(whole, alone=("m.k",)), ("m.k", "m.main"))
        self.assertEqual(self.touched(whole, old_alone=("m.k",)), ("m.k", "m.main"))
        self.assertEqual(self.touched(whole, alone=("m.k",), old_alone=("m.k",)), ())
        self.assertEqual(self.touched(whole, alone=("m.k", "m.h"), old_alone=("m.h", "m.k")), ())
        self.assertEqual(self.touched(whole, alone=("m.d", "m.k"), old_alone=("m.h", "m.k")), ("m.d", "m.h"))

    def test_an_address_with_other_pieces(self):
        whole = [self.MAIN, *self.PARTS]
        both = (("m.t", "m.u"),)
        self.assertEqual(self.touched(whole, addresses=both), ("m.d", "m.f", "m.g", "m.h", "m.main"))
        self.assertEqual(self.touched(whole, old_addresses=both), ("m.d", "m.f", "m.g", "m.h", "m.main"))
        self.assertEqual(self.touched(whole, addresses=both, old_addresses=both), ())
        # Pieces that are taken newly change nothing for those that are of one address with them as before.
        more = [*whole, func("x", "addr a k")]
        self.assertEqual(self.touched(more, addresses=(("m.k",), ("m.t",), ("m.u",))), ("m.x",))
        self.assertEqual(self.touched(more, addresses=(("m.k", "m.u"), ("m.t",))), ("m.h", "m.x"))

    def test_paths_through_what_is_not_touched(self):
        chain = [func("x", "call p"), func("y", "call q"), func("p", "call r"), func("q", "call s"), func("r", "tell a"), func("s", "tell b")]

        def program(*last):
            return program_of(func("main"), func("f", "call x", "call r", *last), func("g", "call y", "call s", *last),
                              func("h", "call x", *last), func("i", "call y", *last), *chain)

        old, new = Likeness(program(), ()), program("set a 1")
        self.assertEqual(old.path("m.x", "m.y"), (0, 0))
        anew, whole = Anew(old, new, ()), Likeness(new, ())
        self.assertEqual(anew.touched, ("m.f", "m.g", "m.h", "m.i"))
        # The shorter one of two ways is found, though a longer one is known already.
        self.assertEqual([anew.path(*pair) for pair in [("m.f", "m.g"), ("m.h", "m.i"), ("m.x", "m.y"), ("m.p", "m.q")]],
                         [(1,), (0, 0, 0), (0, 0), (0,)])
        for pair in itertools.combinations(new.pieces, 2):
            self.assertEqual(anew.path(*pair), whole.path(*pair))

    def test_errors_as_a_likeness(self):
        old = Likeness(self.OLD, self.APART)
        for value in ANY_VALUES:
            for alone in ((), ("m.f",), 5):
                found = error_of(Anew, old, self.OLD, value, alone=alone)
                self.assertIs(found[0], BadValue)
                self.assertIs(found[1], value)
        for value in [*ANY_VALUES, ("m.f", "m.f"), ["m.f"], ("m.f", "m.none"), (Odd(), "m.f")]:
            if value in [(), ("m.f",)] and not isinstance(value, Odd) and not [one for one in value if isinstance(one, Odd)]:
                continue
            found = error_of(Anew, old, self.OLD, self.APART, alone=value)
            self.assertIs(found[0], BadValue)
            self.assertIs(found[1], value)

    def test_it_is_a_likeness(self):
        old = Likeness(self.OLD, self.APART)
        anew = Anew(old, self.OLD, self.APART, alone=("m.f",))
        self.assertIsInstance(anew, Likeness)
        self.assertEqual((anew.program, anew.addresses, anew.alone), (self.OLD, self.APART, ("m.f",)))
        self.assertEqual((len(anew), list(anew)), (len(anew.bodies), list(anew.bodies)))
        self.assertIs(("m.t", "m.u") in anew, True)
        self.assertIs(check_likeness(self.OLD, self.APART, anew.paper(), alone=("m.f",)), True)
        self.assertEqual(error_of(anew.path, "m.f", 5), (UnknownName, 5))
        self.assertEqual((Likeness(self.OLD, self.APART).paper(), old.alone), (old.paper(), ()))

    def test_at_random(self):
        pick = random.Random(5)
        sizes = []
        for number in range(120):
            one, other = branching_program(number), branching_program(number + pick.choice([0, 0, 1]))
            old = Likeness(one, pick.choice(partitions(one.taken)), alone=tuple(pick.sample(one.pieces, pick.randint(0, 2))))
            for _ in range(3):
                addresses = pick.choice(partitions(other.taken))
                alone = tuple(pick.sample(other.pieces, pick.randint(0, 2)))
                anew, whole = Anew(old, other, addresses, alone=alone), Likeness(other, addresses, alone=alone)
                for pair in itertools.combinations(other.pieces, 2):
                    self.assertEqual(anew.path(*pair), whole.path(*pair))
                self.assertEqual((anew.bodies, anew.paper()), (whole.bodies, whole.paper()))
                self.assertEqual(anew.touched, slow_touched(old, other, addresses, alone))
                # For two pieces that are not touched everything is as it was.
                same = [name for name in other.pieces if name not in anew.touched]
                for pair in itertools.combinations(same, 2):
                    self.assertEqual(anew.path(*pair), old.path(*pair))
                sizes.append(len(same))
                old, one = anew, other
        self.assertGreater(len([many for many in sizes if many > 1]), 40)


class Links(unittest.TestCase):

    def test_without_old(self):
        for program in [*programs_at_random(30, start=600), *branching_programs(20, start=50), two_joinings()]:
            link = Link(program)
            self.assertEqual((link.program, link.folding, link.size), (program, smallest(program), size(link.image)))
            self.assertEqual((link.image, link.image.folding), (Image(link.folding), link.folding))
            self.assertEqual((link.certificate, link.kept), (smallest_paper(program), ()))
            self.assertEqual(Link(program, old=None).certificate, link.certificate)

    def test_attributes_are_given_by_name(self):
        with self.assertRaises(TypeError):
            Link(main_of(), None)
        self.assertIsInstance(Link(main_of()).image, Image)

    def test_new_lists_each_time(self):
        program = two_joinings()
        link = Link(program)
        paper = link.certificate
        paper[1].clear()
        paper[2].pop()
        self.assertEqual(link.certificate, smallest_paper(program))
        program = program_of(func("main", "addr a f", "callr a", "addr a g", "callr a"), func("f", "tell b"), func("g", "tell b"))
        link = Link(program)
        self.assertEqual(link.certificate[2][0][0], "large")
        link.certificate[2][0][1].append(5)
        self.assertEqual(link.certificate, smallest_paper(program))
        self.assertIs(check_smallest(program, Link(program, old=link).certificate), True)

    def test_moments_that_stay(self):
        old = Link(two_joinings())
        link = Link(two_joinings(), old=old)
        self.assertEqual(link.kept, ((("m.f",), ("m.g",), ("m.h", "m.i")), (("m.f", "m.g"), ("m.h",), ("m.i",))))
        self.assertEqual((link.folding, link.size, link.certificate), (old.folding, old.size, old.certificate))
        self.assertEqual(Link(two_joinings(), old=link).kept, link.kept)

    def test_a_moment_that_is_not_the_least_any_more(self):
        def program(*rows):
            return program_of(func("main", "addr a f", "addr b g", "choose 5", *rows, "same a b 7", "tell c"), func("f"), func("g"))

        old, new = program("ret", "ret"), program("same a b 7", "tell d")
        self.assertEqual([notice(one, Image(list(foldings(one))[0])) for one in (old, new)], [((1,), 1), ((0,), 1)])
        link = Link(new, old=Link(old))
        self.assertEqual((link.kept, link.certificate[2]), (((("m.f", "m.g"),),), [("noticed", ((1,), 1))]))
        self.assertEqual(Link(new).certificate[2], [("noticed", ((0,), 1))])
        self.assertIs(check_smallest(new, link.certificate), True)
        # It stays in the next one, too; a moment that shows nothing any more does not.
        self.assertEqual(Link(new, old=link).certificate, link.certificate)
        link = Link(program("same a b 7", "ret"), old=Link(new))
        self.assertEqual((link.kept, link.certificate[2]), ((), [("noticed", ((1,), 1))]))

    def test_kept_ones_at_random(self):
        kept, lost = 0, 0
        pick = random.Random(11)
        for number in range(150):
            old = Link(branching_program(number))
            program = branching_program(number) if pick.random() < 0.3 else self.varied(branching_program(number), pick)
            link, fresh = Link(program, old=old), Link(program)
            self.assertEqual((link.folding, link.image, link.size), (fresh.folding, fresh.image, fresh.size))
            self.assertIs(check_smallest(program, link.certificate), True)
            others = [addresses for addresses in partitions(program.taken) if addresses != link.folding.addresses]
            entries = dict(zip(others, link.certificate[2]))
            wanted = []
            for addresses, entry in self.noticed(old):
                if addresses not in entries:
                    continue
                bodies = Likeness(program, addresses)
                if bodies.holds and check_moment(program, Image(Folding(program, addresses, bodies.bodies)), entry[1]):
                    wanted.append(addresses)
                    self.assertEqual(entries[addresses], entry)
                else:
                    lost += 1
            self.assertEqual(link.kept, tuple(wanted))
            for addresses in others:
                if addresses not in wanted:
                    self.assertEqual(entries[addresses], dict(zip(others, fresh.certificate[2]))[addresses])
            self.assertEqual(Link(program, old=old).certificate, link.certificate)
            kept += len(wanted)
        self.assertGreater(kept, 50)
        self.assertGreater(lost, 10)

    def varied(self, program, pick):
        """The program with one row of main left out or doubled, if it is one."""
        lines = [" ".join(str(word).removeprefix("m.") for word in row) for row in program.rows_of("m.main")]
        place = pick.randrange(len(lines))
        lines = lines[:place] + pick.choice([[], ["tell c"], ["tell d"], [lines[place]] * 2]) + lines[place + 1:]
        lines = [" ".join(words[:-1] + [str(min(int(words[-1]), len(lines)))]) if words[0] in ("choose", "same", "go") else line
                 for line, words in [(line, line.split()) for line in lines]]
        parts = [(data if program.kind_of(name) == "data" else func)(name[2:], *[
            str(row).removeprefix("m.") if isinstance(row, (int, str)) else " ".join(str(word).removeprefix("m.") for word in row)
            for row in program.rows_of(name)]) for name in program.pieces if name != "m.main"]
        return program_of(func("main", *lines[:16]), *parts)

    def noticed(self, link):
        others = [addresses for addresses in partitions(link.program.taken) if addresses != link.folding.addresses]
        return [(addresses, entry) for addresses, entry in zip(others, link.certificate[2]) if entry[0] == "noticed"]

    def test_other_taken_pieces(self):
        program = program_of(func("main", "addr a f", "addr b g", "same a b 4", "tell c"), func("f"), func("g"))
        other = program_of(func("main", "addr a f", "addr b g", "same a b 5", "tell c", "addr a h"), func("f"), func("g"), func("h"))
        link = Link(other, old=Link(program))
        self.assertEqual((link.kept, link.certificate), ((), smallest_paper(other)))
        # From the greater one on: the partitions are others, too.
        self.assertEqual(Link(program, old=Link(other)).kept, ())

    def test_a_partition_that_is_not_legal_any_more(self):
        program = program_of(func("main", "addr a f", "addr b g", "same a b 4", "tell c"), func("f"), func("g"))
        other = program_of(func("main", "addr a f", "addr b g", "same a b 4", "tell c"), func("f"), func("g", "tell a"))
        link = Link(other, old=Link(program))
        self.assertEqual((link.kept, link.certificate), ((), smallest_paper(other)))

    def test_the_limit(self):
        for many, error in [(200, None), (201, LIMIT)]:
            self.assertEqual(error_of(Link, long_program(many)), error)
            self.assertEqual(error_of(lambda: Link(long_program(many), old=Link(main_of()))), error)

    def test_no_limit_for_kept_ones(self):
        def program(row):
            main = ["addr a f", "addr b g", "choose 4", row, "set d 1", "same a b 7", "set d 0", *["call x"] * 7, "tell d"]
            return program_of(func("main", *main), func("f"), func("g"), func("x", *["tell c"] * 16))

        # In the new program two ways lead to one state of the program, and to two states of the image.
        old, new = program("ret"), program("go 5")
        image, moment = Image(list(foldings(new))[0]), ((1,), 113)
        self.assertEqual(Link(old).certificate[2], [("noticed", moment)])
        self.assertIs(check_moment(new, image, moment), True)
        self.assertEqual([error_of(notice, new, image), error_of(smallest, new), error_of(Link, new)], [LIMIT] * 3)
        link = Link(new, old=Link(old))
        self.assertEqual((link.kept, link.certificate[2]), (((("m.f", "m.g"),),), [("noticed", moment)]))
        self.assertIs(check_smallest(new, link.certificate), True)
        self.assertEqual(error_of(lambda: Link(new, old=Link(two_joinings()))), LIMIT)


if __name__ == "__main__":
    unittest.main()
