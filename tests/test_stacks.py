"""Stacks of events, and for which stacks of the program those of an image may stand."""

import itertools
import unittest

from helpers import ANY_VALUES, NO_FULL_NAMES, Odd, data, error_of, func, long_program, main_of, program_of
from helpers import branching_programs, programs_at_random, slow_event, slow_notice, slow_pairs, slow_size, two_joinings
from foldsame.errors import BadValue, LimitExceeded, Noticed, UnknownName
from foldsame.foldings import Folding, foldings, partitions, plain
from foldsame.images import Image
from foldsame.likeness import Likeness
from foldsame.machine import begin, event_of
from foldsame.needed import stripped
from foldsame.noticing import size
from foldsame.programs import Program
from foldsame.stacks import sources, telling, tells, unique

LIMIT = (LimitExceeded, 200)
BRANCH = func("main", "choose 3", "addr a f", "go 4", "addr a g", "callr a")
TWO = [func("f", "tell b"), func("g", "tell b")]


def first_image(program):
    return Image(list(foldings(program))[0])


def slow_rows(program, image):
    """The moment and both stacks of each event that is told first, by moments."""
    pairs = slow_pairs(program, image)
    rows = [(moment, slow_event(program, one)[1], slow_event(image, other)[1]) for (one, other), moment in pairs.items()]
    return sorted(rows, key=lambda row: (row[0][1], row[0][0]))


def slow_sources(rows, stack):
    found = {}
    for moment, source, its in rows:
        if its == stack:
            found.setdefault(source, moment)
    return tuple(sorted(found.items(), key=lambda row: (row[1][1], row[1][0])))


def slow_split(rows, told):
    """The least moment with an earlier one of the same stack of the image that is told otherwise, behind the first."""
    for place, (moment, source, stack) in enumerate(rows):
        ahead = [row for row in rows[:place] if row[2] == stack]
        if any(told(row[1]) != told(source) for row in ahead):
            return (ahead[0][0], moment)
    return None


def places(name):
    return lambda stack: [place for place, frame in enumerate(stack) if frame[0] == name]


def slow_telling(program, addresses, names):
    """What telling gives for images that are not noticed."""
    found = []
    for many in (0, 1, 2):
        for alone in itertools.combinations(program.pieces, many):
            likeness = Likeness(program, addresses, alone=alone)
            if likeness.holds:
                folding = Folding(program, addresses, likeness.bodies)
                image = Image(folding)
                moment = slow_notice(program, image, (begin(program), begin(image)))
                if moment is not None:
                    raise Noticed(moment)
                rows = slow_rows(program, image)
                if all(slow_split(rows, places(name)) is None for name in names):
                    found.append((slow_size(image), len(found), folding))
    return min(found, key=lambda row: row[:2])[2] if found else None


class Sources(unittest.TestCase):

    def test_stacks_of_told_asked_and_ended(self):
        program = program_of(func("main", "call f", "choose 2"), func("f", "tell a"))
        image = Image(plain(program))
        for stack, moment in [((("m.main", 1), ("m.f", 0)), ((), 0)), ((("m.main", 1),), ((), 1)), ((("m.main", 2),), ((0,), 2)),
                              ((("m.main", 0),), None)]:
            self.assertEqual(sources(program, image, stack), () if moment is None else ((stack, moment),))

    def test_the_stack_of_the_silent_end(self):
        program = program_of(func("main", "call f"), func("f", "go 0"))
        stack = event_of(program, begin(program))[1]
        self.assertEqual(stack, (("m.main", 1), ("m.f", 0)))
        self.assertEqual(sources(program, Image(plain(program)), stack), ((stack, ((), 0)),))
        # The 61st instruction: one call and sixty rows in turns of three.
        program = program_of(func("main", "call f"), func("f", "set a 1", "set b 1", "go 0"))
        self.assertEqual(sources(program, Image(plain(program)), (("m.main", 1), ("m.f", 2)))[0][1], ((), 0))

    def test_one_and_several(self):
        program = program_of(BRANCH, *TWO)
        folded, apart = first_image(program), Image(plain(program))
        told = (("m.main", 5), ("m.f", 0)), ((0,), 1)
        self.assertEqual(sources(program, apart, told[0]), (told,))
        self.assertEqual(sources(program, folded, told[0]), (told, ((("m.main", 5), ("m.g", 0)), ((1,), 1))))
        self.assertEqual(sources(program, folded, (("m.main", 5), ("m.g", 0))), ())

    def test_the_least_moment_of_each(self):
        program = program_of(func("main", "choose 0", "choose 5", "addr a f", "callr a", "go 0", "addr a g", "go 3"),
                             func("f", "tell b"), func("g", "tell b"))
        image = first_image(program)
        self.assertEqual(sources(program, image, (("m.main", 4), ("m.f", 0))),
                         (((("m.main", 4), ("m.f", 0)), ((0, 0), 2)), ((("m.main", 4), ("m.g", 0)), ((0, 1), 2))))

    def test_no_stacks(self):
        program = program_of(BRANCH, *TWO, data("d", "1"))
        image = first_image(program)
        right = (("m.main", 5), ("m.f", 0))
        wrong = [*ANY_VALUES, *[(value,) for value in ANY_VALUES], list(right), (list(right[0]), right[1]),
                 (("m.main", 5), ("m.f", False)), (("m.main", 5.0), ("m.f", 0)), (("m.main", 5), ("m.f", 0, 0)),
                 (("m.main", 5), ("m.d", 0)), (("m.main", 5), ("m.g", 0)), (("m.main", 5), ("m.f", 2)), (Odd(), Odd()),
                 (("m.main", 5), (Odd(), Odd())), (("m.main", 5), (Odd(), 0)), right * 2, right * 3, right[1:], ()]
        for value in wrong:
            self.assertEqual(sources(program, image, value), ())

    def test_ahead_of_all_else(self):
        noticed = program_of(func("main", "addr a f", "addr b g", "same a b 4", "tell c"), func("f"), func("g"))
        image = first_image(noticed)
        for call, value in itertools.product((sources, tells), [*ANY_VALUES, "m.f"]):
            self.assertEqual(error_of(call, noticed, image, value), (Noticed, ((), 0)))
        self.assertEqual(error_of(unique, noticed, image), (Noticed, ((), 0)))
        long = long_program(201)
        for call, value in itertools.product((sources, tells), [*ANY_VALUES, "m.main"]):
            self.assertEqual(error_of(call, long, Image(plain(long)), value), LIMIT)
        self.assertEqual(error_of(unique, long, Image(plain(long))), LIMIT)
        self.assertIsNone(unique(long_program(200), Image(plain(long_program(200)))))

    def test_noticed_ahead_of_the_limit(self):
        rows = ["addr a f", "addr b g", "same a b 2", "tell c"]
        program = program_of(func("main", *rows, *["call long"] * 12), func("long", *["tell d"] * 16), func("f"), func("g"))
        image = first_image(program)
        self.assertEqual(error_of(unique, program, image), (Noticed, ((), 0)))
        self.assertEqual(error_of(unique, program, Image(plain(program))), None)

    def test_stripped_images(self):
        program = program_of(BRANCH, *TWO, func("h"))
        image = first_image(program)
        self.assertEqual(unique(program, stripped(image)), unique(program, image))
        stack = (("m.main", 5), ("m.f", 0))
        self.assertEqual(sources(program, stripped(image), stack), sources(program, image, stack))


class UniqueAndTells(unittest.TestCase):

    def test_two_moments(self):
        program = program_of(BRANCH, *TWO)
        folded, apart = first_image(program), Image(plain(program))
        self.assertEqual(unique(program, folded), (((0,), 1), ((1,), 1)))
        self.assertIsNone(unique(program, apart))
        for name in ("m.f", "m.g"):
            self.assertEqual(tells(program, folded, name), (((0,), 1), ((1,), 1)))
            self.assertIsNone(tells(program, apart, name))
        self.assertIsNone(tells(program, folded, "m.main"))

    def test_the_first_moment_with_this_stack(self):
        program = program_of(func("main", "callr d", "addr d f", "choose 5", "callr d", "ret", "addr d g", "callr d"),
                             func("f", "tell b"), func("g", "tell b"))
        self.assertEqual(unique(program, first_image(program)), None)
        program = program_of(func("main", "addr d f", "call x", "call x", "addr d g", "call x"),
                             func("x", "callr d"), func("f", "tell b"), func("g", "tell b"))
        self.assertEqual(unique(program, first_image(program)), None)
        program = program_of(func("main", "addr d f", "callr d", "choose 1", "addr d g", "go 1"),
                             func("f", "tell b"), func("g", "tell b"))
        # f is told at ((), 0) and ((1,), 2), then g behind a choice of 0.
        self.assertEqual(unique(program, first_image(program)), (((), 0), ((0,), 2)))

    def test_only_the_places_matter(self):
        # f and g are one, and the numbers in the program's stacks are alike: only h tells where it is.
        program = program_of(func("main", "choose 3", "call f", "ret", "call g"), func("f", "call h"), func("g", "call h"),
                             func("h", "tell a"))
        image = first_image(program)
        self.assertIsNone(unique(program, image))
        program = program_of(BRANCH, func("f", "call h"), func("g", "call h"), func("h", "tell a"))
        image = first_image(program)
        self.assertEqual([tells(program, image, name) for name in ("m.h", "m.main", "m.f")],
                         [None, None, (((0,), 1), ((1,), 1))])
        self.assertEqual(unique(program, image), (((0,), 1), ((1,), 1)))

    def test_a_place_that_moves(self):
        program = program_of(func("main", "choose 4", "addr a f", "addr b g", "go 6", "addr a g", "addr b f", "callr a"),
                             func("f", "tell c", "callr b"), func("g", "tell c", "callr b"))
        image = first_image(program)
        self.assertEqual(tells(program, image, "m.f"), (((0,), 1), ((1,), 1)))

    def test_unknown_names(self):
        program = program_of(BRANCH, *TWO)
        for value in [*NO_FULL_NAMES, *ANY_VALUES]:
            if value != "m.f" or isinstance(value, Odd):
                found = error_of(tells, program, first_image(program), value)
                self.assertIs(found[0], UnknownName)
                self.assertIs(found[1], value)

    def test_at_random(self):
        seen = []
        for program in [*programs_at_random(60, start=3000), *branching_programs(60)]:
            for folding in list(foldings(program))[:6]:
                image = Image(folding)
                if slow_pairs(program, image, 10 ** 9) is None:
                    self.assertIs(error_of(unique, program, image)[0], Noticed)
                    continue
                if error_of(unique, program, image) is not None:
                    continue
                rows = slow_rows(program, image)
                self.assertEqual(unique(program, image), slow_split(rows, lambda stack: stack))
                for name in program.pieces:
                    self.assertEqual(tells(program, image, name), slow_split(rows, places(name)))
                for _, _, stack in rows:
                    self.assertEqual(sources(program, image, stack), slow_sources(rows, stack))
                seen.append(unique(program, image))
        self.assertGreater(len([one for one in seen if one is not None]), 5)
        self.assertGreater(seen.count(None), 50)


class Telling(unittest.TestCase):

    def test_none_one_and_two_alone(self):
        program = program_of(func("main", "choose 3", "call f", "ret", "choose 6", "call g", "ret", "call h"),
                             *[func(name, "tell b") for name in "fgh"])
        # Each stack has another number in main: all is told with all three as one.
        self.assertEqual(telling(program, (), program.pieces).bodies, (("m.f", "m.g", "m.h"), ("m.main",)))
        rows = ["choose 3", "addr a f", "go 6", "addr a g", "choose 6", "addr a h", "callr a"]
        program = program_of(func("main", *rows), *[func(name, "tell b") for name in "fgh"])
        addresses = (("m.f",), ("m.g",), ("m.h",))
        self.assertEqual(telling(program, addresses, ()).bodies, (("m.f", "m.g", "m.h"), ("m.main",)))
        self.assertEqual(telling(program, addresses, ("m.f",)).bodies, (("m.f",), ("m.g", "m.h"), ("m.main",)))
        self.assertEqual(telling(program, addresses, ("m.g", "m.g")).bodies, (("m.f", "m.h"), ("m.g",), ("m.main",)))
        # All of them are told where two are alone: the first two of the three ways to do it.
        self.assertEqual(telling(program, addresses, ("m.f", "m.h")).bodies, plain(program).bodies)

    def test_none_that_tells(self):
        program = program_of(BRANCH, *TWO)
        self.assertIsNone(telling(program, (("m.f", "m.g"),), ("m.f",)))
        self.assertEqual(telling(program, (("m.f", "m.g"),), ("m.main",)).addresses, (("m.f", "m.g"),))
        self.assertEqual(telling(program, (("m.f", "m.g"),), ()).bodies, (("m.f", "m.g"), ("m.main",)))
        # Three alone would be needed where four are alike.
        rows = ["choose 3", "addr a f", "go 10", "choose 6", "addr a g", "go 10", "choose 9", "addr a h", "go 10", "addr a i",
                "callr a"]
        program = program_of(func("main", *rows), *[func(name, "tell b") for name in "fghi"])
        addresses = tuple((name,) for name in program.taken)
        self.assertIsNone(telling(program, addresses, ("m.f", "m.g", "m.h")))
        self.assertIsNotNone(telling(program, addresses, ("m.f", "m.g")))

    def test_addresses_that_no_bodies_hold(self):
        program = program_of(BRANCH, func("f", "tell b"), func("g", "tell c"))
        self.assertIsNone(telling(program, (("m.f", "m.g"),), ()))

    def test_the_first_of_equal_sizes(self):
        # With f alone or with g alone the size is the same; f comes first.
        program = program_of(BRANCH, *TWO)
        found = telling(program, (("m.f",), ("m.g",)), ("m.f", "m.g"))
        self.assertEqual(found, Folding(program, (("m.f",), ("m.g",)), plain(program).bodies))
        # Nothing of what no run uses costs anything: the greatest bodies stand first.
        program = program_of(func("main"), func("f"), func("g"))
        self.assertEqual(telling(program, (), ("m.f",)).bodies, (("m.f", "m.g", "m.main"),))

    def test_the_errors_in_their_order(self):
        program = program_of(BRANCH, *TWO)
        for value in ANY_VALUES:
            for names in [(), ("m.f",), 5]:
                found = error_of(telling, program, value, names)
                self.assertIs(found[0], BadValue)
                self.assertIs(found[1], value)
        addresses = (("m.f",), ("m.g",))
        for value in [*ANY_VALUES, ["m.f"], "m.f", ("m.f", "m.none"), ("m.f", ["m.g"]), ("m.f", Odd())]:
            if value in [(), ("m.f",)] and not isinstance(value, Odd) and not [1 for one in value if isinstance(one, Odd)]:
                self.assertIsNone(error_of(telling, program, addresses, value))
                continue
            found = error_of(telling, program, addresses, value)
            self.assertIs(found[0], BadValue)
            self.assertIs(found[1], value)

    def test_noticed_and_the_limit(self):
        program = two_joinings()
        for names in [(), ("m.f",)]:
            self.assertEqual(error_of(telling, program, (("m.f", "m.g"), ("m.h",), ("m.i",)), names), (Noticed, ((), 0)))
            self.assertIsNone(error_of(telling, program, (("m.f", "m.g"), ("m.h", "m.i")), names))
        self.assertEqual(error_of(telling, program, (("m.f", "m.g"), ("m.h",), ("m.i",)), 5), (BadValue, 5))
        for many, error in [(200, None), (201, LIMIT)]:
            for names in [(), ("m.main",)]:
                self.assertEqual(error_of(telling, long_program(many), (), names), error)
        self.assertEqual(error_of(telling, long_program(201), (), ("m",)), (BadValue, ("m",)))

    def test_a_later_one_that_is_smaller(self):
        # With a alone, y and z are unlike, too; with y alone, its frames tell where a is.
        five = ["set c 1", "set c 1", "set c 1", "set c 1"]
        program = program_of(func("main", "choose 3", "addr a y", "go 4", "addr a z", "callr a"), func("a", "tell b"),
                             func("b", "tell b"), func("y", *five, "call b"), func("z", *five, "call a"))
        found = telling(program, (("m.y",), ("m.z",)), ("m.a",))
        self.assertEqual(found.bodies, (("m.a", "m.b"), ("m.main",), ("m.y",), ("m.z",)))
        self.assertEqual(size(Image(found)), 16)

    def test_data_alone(self):
        program = program_of(func("main", "choose 3", "read a d 0", "ret", "read a e 0"), data("d", "1"), data("e", "1"))
        self.assertEqual(telling(program, (), ()).bodies, (("m.d", "m.e"), ("m.main",)))

    def test_at_random(self):
        seen = []
        for number, program in enumerate([*programs_at_random(20, 5, start=4000), *branching_programs(30, 4)]):
            for addresses in partitions(program.taken)[:4]:
                names = tuple([name for place, name in enumerate(program.pieces) if (number + place) % 2])
                try:
                    wanted = slow_telling(program, addresses, names)
                except Noticed as error:
                    self.assertEqual(error_of(telling, program, addresses, names), (Noticed, error.moment))
                    continue
                except LimitExceeded:
                    self.assertEqual(error_of(telling, program, addresses, names), LIMIT)
                    continue
                found = telling(program, addresses, names)
                self.assertEqual(found, wanted)
                seen.append(found)
        self.assertGreater(seen.count(None), 10)
        self.assertGreater(len(seen) - seen.count(None), 20)

    def test_the_example(self):
        main = "export main\nfunc main\nchoose 3\naddr a f\ngo 4\naddr a g\ncallr a\nend"
        program = Program({"m": main + "\nfunc f\ntell b\nend\nfunc g\ntell b\nend"})
        image = first_image(program)
        self.assertEqual(unique(program, image), (((0,), 1), ((1,), 1)))
        found = sources(program, image, (("m.main", 5), ("m.f", 0)))
        self.assertEqual([moment for stack, moment in found], [((0,), 1), ((1,), 1)])

    def test_one_function(self):
        program = main_of("tell a")
        self.assertEqual(telling(program, (), ("m.main",)), plain(program))


if __name__ == "__main__":
    unittest.main()
