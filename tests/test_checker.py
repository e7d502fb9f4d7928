"""The checker: what it accepts and refuses, by any author and of any kind."""

import itertools
import unittest
from unittest import mock

from helpers import ANY_VALUES, ZEROS, Odd, data, func, long_program, main_of, program_of, programs_at_random
from helpers import slow_notice, slow_walk
from foldsame import checker
from foldsame.checker import check_moment, check_size, check_smallest, check_table, check_together
from foldsame.foldings import Folding, foldings, partitions, plain
from foldsame.images import Image, load
from foldsame.joins import Fold, joins_of
from foldsame.likeness import Likeness
from foldsame.machine import at, begin
from foldsame.noticing import notice, size, table, together
from foldsame.smallest import smallest, smallest_paper


def image_at(program, place):
    """The image of the folding of this number."""
    return Image(list(foldings(program))[place])


def image_of(program, addresses):
    """The image of the folding with these addresses."""
    return Image(Folding(program, addresses, Likeness(program, addresses).bodies))


class Together(unittest.TestCase):

    PROGRAM = program_of(func("main", "addr a f", "choose 3", "addr b g", "callr a", "tell c"), func("f", "tell d", "ret"),
                         func("g", "tell d", "ret"), data("x", "main"))

    def setUp(self):
        self.image = image_at(self.PROGRAM, 0)
        self.right = table(self.PROGRAM, self.image)

    def check(self, value):
        return check_table(self.PROGRAM, self.image, value)

    def test_right_ones(self):
        self.assertEqual(len(self.right), 7)
        self.assertIs(self.check(self.right), True)
        self.assertIs(self.check(self.right[::-1]), True)
        self.assertIs(self.check(self.right + self.right), True)
        self.assertIs(check_together(self.PROGRAM, self.image, self.right[:1], self.right), True)
        self.assertIs(check_together(self.PROGRAM, self.image, self.right, self.right), True)
        self.assertIs(check_together(value=self.right, first=[], other=self.image, one=self.PROGRAM), True)
        self.assertIs(check_table(value=self.right, image=self.image, program=self.PROGRAM), True)

    def test_nothing_asked_for(self):
        self.assertIs(check_together(self.PROGRAM, self.image, [], []), True)
        self.assertIs(self.check([]), False)

    def test_without_one_pair(self):
        for place in range(len(self.right)):
            self.assertIs(self.check(self.right[:place] + self.right[place + 1:]), False)

    def test_without_a_first_pair(self):
        first = [self.right[0], (self.right[0][0], self.right[1][1])]
        self.assertIs(check_together(self.PROGRAM, self.image, first, self.right), False)
        self.assertIs(check_together(self.PROGRAM, self.image, self.right[:2], self.right[1:]), False)
        self.assertIs(check_together(self.PROGRAM, self.image, [], self.right[1:]), True)

    def test_one_pair_more(self):
        states = [pair[0] for pair in self.right]
        for one, other in itertools.product(self.right, repeat=2):
            pair = (one[0], other[1])
            follows = together(self.PROGRAM, self.image, *pair)
            self.assertIs(self.check(self.right + [pair]),
                          follows is not None and all(more in self.right + [pair] for more in follows))
        self.assertEqual(len(states), len(set(states)))

    def test_an_unlike_pair(self):
        program = program_of(func("main", "tell c", "addr a f", "addr b g", "same a b 6", "tell d", "ret"), func("f"), func("g"))
        image = image_at(program, 0)
        pairs = [(at(program, ((), number)), at(image, ((), number))) for number in range(2)]
        self.assertIs(check_table(program, image, pairs), False)
        self.assertIs(check_together(program, image, pairs[1:], pairs[1:]), False)
        self.assertIs(check_table(program, image_at(program, -1), table(program, image_at(program, -1))), True)

    def wrong_states(self, frame, registers):
        """States that are none, each wrong in one place alone."""
        frames = [None, frame, [frame], (), (["m.main", 0],), (("m.main",),), (("m.main", 0, 0),), (("m.none", 0),),
                  (("m.x", 0),), (("m.x", 1),), (("main", 0),), ((None, 0),), (((), 0),), (([], 0),), ((Odd(), 0),),
                  (("m.main", -1),), (("m.main", 6),), (("m.f", 3),), (("m.main", "0"),), (("m.main", 0.0),),
                  (("m.main", 5.0),), (("m.main", True),), (("m.main", False),), (("m.main", None),),
                  (("m.main", Odd()),), (frame,) * 5, (frame, None), (None, frame), (Odd(),), Odd(), "m.main", 0, {frame: 0},
                  (frame, ("m.x", 0)), (("m.none", 0), frame), (("m.main", 6), frame), (frame, ["m.main", 5])]
        values = [-1, 100, 1000, True, False, 0.0, None, "0", ("at", "m.x"), ("at", "m.none"), ("to", "m.f"), ("at",),
                  ("at", "m.f", 0), ["at", "m.f"], ("at", None), ("at", ["m.f"]), (0, 0), (Odd(), Odd()), ("at", Odd()),
                  (Odd(), "m.f"), Odd(), (), "m.f", b"0", ("m.f", "at")]
        others = [None, list(registers), registers[:3], registers + (0,), (), "0000", Odd(), 0, dict(enumerate(registers))]
        return [None, (), frame, ((frame,),), ((frame,), registers, 0), [(frame,), registers], Odd(), "state", 0,
                (registers, (frame,)), *[(one, registers) for one in frames], *[((frame,), one) for one in others],
                *[((frame,), registers[:place] + (value,) + registers[place + 1:]) for place in (0, 3) for value in values]]

    def test_states_that_are_none(self):
        # Nothing follows the second frame, so that a pair with it is refused for the state alone.
        end = ((("m.main", 5),), ZEROS)
        self.assertIs(self.check(self.right + [(end, end)]), True)
        for frame in [("m.main", 0), ("m.main", 5)]:
            for state in self.wrong_states(frame, ZEROS):
                for pair in [(state, end), (end, state), (state, state)]:
                    self.assertIs(self.check(self.right + [pair]), False, repr(state))
                    self.assertIs(self.check([pair] + self.right), False, repr(state))

    def test_states_that_are_some(self):
        end = ((("m.main", 5),), (99, ("at", "m.f"), ("at", "m.g"), ("at", "m.main")))
        ends = (("m.main", 5),), (99, ("at", "m.f"), ("at", "m.f"), ("at", "m.main"))
        self.assertIs(self.check(self.right + [(end, ends)]), True)
        # The image has no address m.g, and the program has no piece m.x whose address is taken.
        self.assertIs(self.check(self.right + [(end, end)]), False)
        deep = ((("m.main", 5), ("m.f", 2), ("m.g", 2), ("m.main", 5)), ZEROS)
        deep_image = ((("m.main", 5), ("m.f", 2), ("m.f", 2), ("m.main", 5)), ZEROS)
        self.assertIs(self.check(self.right + [(deep, deep_image)]), True)
        self.assertIs(self.check(self.right + [(deep, deep)]), False)

    def test_a_body_of_data_makes_no_frame(self):
        program = program_of(func("main"), data("f", "1"), func("g", "ret"))
        for name, right in [("m.f", False), ("m.g", True)]:
            pair = (((("m.main", 0), (name, 1)), ZEROS),) * 2
            self.assertIs(check_together(program, program, [], [pair]), right)
            image = Image(plain(program))
            self.assertIs(check_together(image, load(str(image)), [], [pair]), right)

    def test_values_of_any_kind(self):
        wrong = [tuple(self.right), {pair: True for pair in self.right}, set(self.right), iter(self.right), str(self.right),
                 [list(pair) for pair in self.right], [(*pair, 0) for pair in self.right], [pair[:1] for pair in self.right],
                 self.right + [None], self.right + [()], self.right + ["ab"], self.right + [Odd()], self.right + [[]],
                 [Odd()] * 7, [(other, one) for one, other in self.right]]
        for value in ANY_VALUES + wrong:
            self.assertIs(self.check(value), False, repr(value))
            if not isinstance(value, list) or value:
                self.assertIs(check_together(self.PROGRAM, self.image, [], value), False, repr(value))

    def test_two_codes_of_any_kind(self):
        linked = load(str(self.image))
        for one, other in itertools.product([self.PROGRAM, self.image, linked], repeat=2):
            pairs = together(one, other, begin(one), begin(other))
            self.assertIs(check_together(one, other, [(begin(one), begin(other))], pairs), True)
            self.assertIs(check_table(one, other, pairs), True)

    def test_more_pairs_than_the_search_takes(self):
        program = long_program(209)
        states = list(slow_walk(program, 300))
        self.assertEqual(len(states), 209)
        self.assertIs(check_table(program, program, [(state, state) for state in states]), True)
        self.assertIs(check_table(program, program, [(state, state) for state in states[:-1]]), False)

    def test_at_random(self):
        for program in programs_at_random(100):
            for folding in itertools.islice(foldings(program), 4):
                image = Image(folding)
                pairs = table(program, image)
                if pairs is not None:
                    self.assertIs(check_table(program, image, pairs), True)
                    for place in range(len(pairs)):
                        self.assertIs(check_table(program, image, pairs[:place] + pairs[place + 1:]), False)
                else:
                    states = itertools.product(slow_walk(program), slow_walk(image))
                    self.assertIs(check_table(program, image, list(states)), False)

    def test_values_are_unchanged(self):
        pairs, first = list(self.right), self.right[:1]
        check_together(self.PROGRAM, self.image, first, pairs)
        self.assertEqual((pairs, first), (self.right, self.right[:1]))


class Moments(unittest.TestCase):

    PROGRAM = program_of(func("main", "addr a f", "addr b g", "choose 5", "tell c", "go 2", "same a b 8", "set c 1", "tell c"),
                         func("f"), func("g"))

    def setUp(self):
        self.image = image_at(self.PROGRAM, 0)

    def check(self, value):
        return check_moment(self.PROGRAM, self.image, value)

    def test_right_ones(self):
        self.assertEqual(notice(self.PROGRAM, self.image), ((1,), 1))
        for moment in [((1,), 1), ((0, 1), 3), ((0, 0, 1), 5), ((0,) * 66 + (1,), 133), ((0,) * 99 + (1,), 199)]:
            self.assertIs(self.check(moment), True)
        self.assertIs(check_moment(value=((1,), 1), image=self.image, program=self.PROGRAM), True)

    def test_at_most_200_events(self):
        program = program_of(func("main", "addr a f", "addr b g", "choose 4", "tell c", "choose 7", "go 2", "ret",
                                  "same a b 9", "tell c"), func("f"), func("g"))
        image = image_at(program, 0)
        self.assertEqual(notice(program, image), ((1, 1), 2))
        self.assertIs(check_moment(program, image, ((1, 0) * 99 + (1, 1), 200)), True)
        self.assertIs(check_moment(program, image, ((0, 0) + (1, 0) * 98 + (1, 1), 201)), False)

    def test_wrong_in_one_place(self):
        for moment in [((), 0), ((0,), 1), ((0,), 2), ((1,), 2), ((1,), 0), ((), 1), ((1, 0), 1), ((1, 1), 1), ((1, 1), 3),
                       ((0, 0), 3), ((0, 1), 2), ((0, 1), 4), ((0, 1, 0), 3), ((2,), 1), ((True,), 1), ((1,), True),
                       ((1.0,), 1), ((1,), 1.0), ([1], 1), [(1,), 1], ((1,),), ((1,), 1, 0), ((-1,), 1), (1, (1,)),
                       ((1,), -1), ((Odd(),), 1), ((1,), Odd()), (Odd(), 1), ("1", 1)]:
            self.assertIs(self.check(moment), False, repr(moment))

    def test_values_of_any_kind(self):
        for value in ANY_VALUES:
            self.assertIs(self.check(value), False, repr(value))

    def test_behind_an_unlike_event(self):
        program = program_of(func("main", "addr a f", "addr b g", "same a b 4", "set c 1", "tell c", "same a b 7", "tell d"),
                             func("f"), func("g"))
        image = image_at(program, 0)
        self.assertIs(check_moment(program, image, ((), 0)), True)
        self.assertIs(check_moment(program, image, ((), 1)), False)

    def test_any_two_codes(self):
        self.assertIs(check_moment(self.image, self.PROGRAM, ((1,), 1)), True)
        self.assertIs(check_moment(self.PROGRAM, self.PROGRAM, ((1,), 1)), False)
        self.assertIs(check_moment(main_of("tell a"), main_of("tell a", "tell b"), ((), 1)), True)
        self.assertIs(check_moment(main_of("tell a"), main_of("tell a", "tell b"), ((), 0)), False)
        self.assertIs(check_moment(main_of("choose 0"), main_of("tell a"), ((), 0)), True)
        self.assertIs(check_moment(main_of("choose 0"), main_of("tell a"), ((0,), 1)), False)

    def test_at_random(self):
        right = 0
        for program in programs_at_random(150):
            for folding in itertools.islice(foldings(program), 4):
                image = Image(folding)
                moment = slow_notice(program, image, (begin(program), begin(image)))
                for many in range(4):
                    for choices in itertools.product((0, 1), repeat=many):
                        for number in range(many, 5):
                            found = check_moment(program, image, (choices, number))
                            right += found
                            if found:
                                self.assertIsNotNone(moment)
                                self.assertLessEqual((moment[1], moment[0]), (number, choices))
                if moment is not None:
                    self.assertIs(check_moment(program, image, moment), True)
        self.assertGreater(right, 10)


class Sizes(unittest.TestCase):

    PROGRAM = program_of(func("main", "choose 4", "addr a f", "callr a", "ret", "addr a g", "callr a", "tell d", "call h"),
                         *[func(name, "tell d", "tell d", "tell d") for name in "fgh"])

    def setUp(self):
        self.image = image_at(self.PROGRAM, -1)

    def test_what_moments_use(self):
        for moments, most in [([], 8), ([((), 0)], 8), ([((0,), 1)], 11), ([((1,), 1)], 11),
                              ([((0,), 1), ((1,), 1)], 13), ([((1,), 1), ((0,), 1), ((1,), 1), ((), 0)], 13),
                              ([((1,), 5)], 11), ([((1,), 2)], 8)]:
            for least in (0, most - 1, most):
                self.assertIs(check_size(self.image, moments, least), True)
            for least in (most + 1, 99):
                self.assertIs(check_size(self.image, moments, least), False)
        self.assertEqual(size(self.image), 13)
        self.assertIs(check_size(value=[((0,), 1)], least=11, image=self.image), True)

    def test_moments_that_are_none(self):
        right = [((0,), 1), ((1,), 1)]
        for moment in [None, ((), 1), ((0,), 0), ((0, 0), 1), ((2,), 1), ((True,), 1), ((0,), True), ([0], 1), [(0,), 1],
                       ((1,), 9), ((0,), 201), ((0,), 1, 0), ((0,),), Odd(), (Odd(), Odd())]:
            for value in [[moment], [*right, moment], [moment, *right]]:
                self.assertIs(check_size(self.image, value, 0), False, repr(moment))

    def test_values_of_any_kind(self):
        right = [((0,), 1), ((1,), 1)]
        for value in ANY_VALUES + [tuple(right), set(right), {moment: 1 for moment in right}, iter(right), right[0]]:
            if value != [] or not isinstance(value, list):
                self.assertIs(check_size(self.image, value, 0), False, repr(value))

    def test_value_is_unchanged(self):
        value = [((0,), 1), ((1,), 1)]
        check_size(self.image, value, 3)
        self.assertEqual(value, [((0,), 1), ((1,), 1)])


class Smallest(unittest.TestCase):

    PROGRAM = program_of(func("main", "addr a f", "addr b g", "same a b 5", "choose 4", "callr b", "callr a"),
                         func("f", "tell d", "ret", "ret"), func("g", "tell d", "ret", "ret"), func("h", "call f", "addr a i"),
                         func("i", "tell d", "ret", "ret"))

    def setUp(self):
        self.paper = smallest_paper(self.PROGRAM)

    def check(self, value):
        return check_smallest(self.PROGRAM, value)

    def test_right_one(self):
        self.assertIs(self.check(self.paper), True)
        self.assertIs(check_smallest(value=self.paper, program=self.PROGRAM), True)

    def test_wrong_in_one_place(self):
        addresses, pairs, entries = self.paper
        wrong = [list(self.paper), self.paper[:2], (*self.paper, 0), (None, pairs, entries), (list(addresses), pairs, entries),
                 (addresses[:-1], pairs, entries), (addresses, tuple(pairs), entries), (addresses, pairs[:-1], entries),
                 (addresses, pairs[1:], entries), (addresses, [], entries), (addresses, None, entries),
                 (addresses, pairs, tuple(entries)), (addresses, pairs, entries[:-1]), (addresses, pairs, entries[1:]),
                 (addresses, pairs, entries + entries[:1]), (addresses, pairs, []), (addresses, pairs, None),
                 (addresses, pairs, entries[::-1]), (addresses, entries, pairs), (addresses, pairs, Odd()), (Odd(), pairs, entries)]
        for value in ANY_VALUES + wrong:
            self.assertIs(self.check(value), False, repr(value))

    def test_other_addresses(self):
        _, pairs, entries = self.paper
        for addresses in partitions(self.PROGRAM.taken):
            if addresses != self.paper[0]:
                self.assertIs(self.check((addresses, pairs, entries)), False)

    def test_papers_of_another_author(self):
        addresses, pairs, entries = self.paper
        self.assertIs(self.check((addresses, pairs[::-1], entries)), True)
        self.assertIs(self.check((addresses, pairs + pairs, entries)), True)

    def test_each_entry_of_any_kind(self):
        addresses, pairs, entries = self.paper
        wrong = [None, (), "apart", ("apart",), ("noticed",), ("large",), ("other", ()), ("apart", None, ()), Odd(), (Odd(),),
                 ("apart", ("m.f", "m.g"), ()), ("apart", ("m.f", "m.f"), ()), ("apart", ["m.f", "m.g"], ()),
                 ("apart", ("m.main", "m.f"), ()), ("apart", ("m.f", "m.none"), ()), ("apart", ("m.f", None), ()),
                 ("apart", ("m.f", []), ()), ("apart", Odd(), ()), ("noticed", None), ("noticed", ((), 1)),
                 ("noticed", ((), 0), 0), ("large", None), ("large", []), ("large", [((), 1)]), ("large", (((), 0),)),
                 ("large", [], 0), ["large", []], (["large"], []), (Odd(), []), ("noticed", Odd()), ("large", Odd()),
                 ("apart", (Odd(), Odd()), ()), ("apart", ("m.f", Odd()), ())]
        for place, entry in itertools.product(range(len(entries)), wrong):
            self.assertIs(self.check((addresses, pairs, [*entries[:place], entry, *entries[place + 1:]])), False, repr(entry))


class Entries(unittest.TestCase):

    def changed(self, program, place, entry):
        """Whether the paper of a program is accepted with another entry in one place."""
        addresses, pairs, entries = smallest_paper(program)
        return check_smallest(program, (addresses, pairs, [*entries[:place], entry, *entries[place + 1:]]))

    def test_apart(self):
        program = program_of(func("main", "addr a f", "addr a g"), func("f", "call h", "call h"), func("g", "call i", "call i"),
                             func("h", "tell a"), func("i", "tell b"))
        self.assertEqual(smallest_paper(program)[2], [("apart", ("m.f", "m.g"), (0,))])
        for entry, right in [(("apart", ("m.f", "m.g"), (0,)), True), (("apart", ("m.f", "m.g"), (1,)), True),
                             (("apart", ("m.g", "m.f"), (1,)), True), (("apart", ("m.f", "m.g"), ()), False),
                             (("apart", ("m.f", "m.g"), (2,)), False), (("apart", ("m.f", "m.g"), [0]), False),
                             (("apart", ("m.f", "m.g"), None), False), (("apart", ("m.f", "m.g")), False),
                             (("apart", ("m.f", "m.g"), (0,), 0), False), (("apart", ("m.h", "m.i"), ()), False),
                             (("apart", ("m.f", "m.main"), ()), False), (("apart", ("m.f",), ()), False),
                             ((Odd(), ("m.f", "m.g"), (0,)), False), (("other", ("m.f", "m.g"), (0,)), False),
                             (("noticed", ((), 0)), False), (("large", []), False)]:
            self.assertIs(self.changed(program, 0, entry), right, entry)

    def test_addresses_that_may_not_be(self):
        program = program_of(func("main", "addr a f", "addr a g"), func("f", "tell a"), func("g", "tell b"))
        addresses, pairs, entries = smallest_paper(program)
        self.assertEqual((addresses, entries), ((("m.f",), ("m.g",)), [("apart", ("m.f", "m.g"), ())]))
        self.assertIs(check_smallest(program, ((("m.f", "m.g"),), pairs, entries)), False)
        self.assertIs(check_smallest(program, ((("m.f", "m.g"),), pairs, [("large", [])])), False)
        self.assertIs(check_smallest(program, ((("m.f", "m.g"),), [], [])), False)

    def test_no_image_behind_the_smallest(self):
        # The addresses that f and h would have as one stand behind the smallest ones, and no image has them.
        program = program_of(func("main", "addr a f", "addr b g", "addr c h", "callr a"), func("f", "tell d"), func("g", "tell d"),
                             func("h", "tell d", "tell d"))
        addresses, pairs, entries = smallest_paper(program)
        wanted = [parts for parts in partitions(program.taken) if parts != addresses]
        place = wanted.index((("m.f", "m.h"), ("m.g",)))
        self.assertEqual((addresses, entries[place][0]), ((("m.f", "m.g"), ("m.h",)), "apart"))
        self.assertGreater(wanted[place], addresses)
        for entry in [("large", [((), 0)]), ("noticed", ((), 0)), ("noticed", ((), 1)), ("large", [((), 0), ((), 1)])]:
            self.assertIs(self.changed(program, place, entry), False)

    def test_apart_by_addresses(self):
        # Of one address f and g agree, but not where those that they take have two.
        program = program_of(func("main", "addr a f", "addr a g"), func("f", "addr a h"), func("g", "addr a i"), func("h"),
                             func("i"))
        paper = smallest_paper(program)
        kinds = dict(zip([parts for parts in partitions(program.taken) if parts != paper[0]],
                         [entry[0] for entry in paper[2]]))
        self.assertEqual(kinds[(("m.f", "m.g"), ("m.h",), ("m.i",))], "apart")
        self.assertNotIn(kinds.get((("m.f", "m.g"), ("m.h", "m.i")), "chosen"), ["apart"])
        self.assertIs(check_smallest(program, paper), True)

    def test_noticed(self):
        program = program_of(func("main", "addr a f", "addr b g", "choose 4", "tell c", "same a b 6", "tell c", "ret"), func("f"),
                             func("g"))
        self.assertEqual(smallest_paper(program)[2], [("noticed", ((1,), 1))])
        for entry, right in [(("noticed", ((1,), 1)), True), (("noticed", ((0,), 2)), True), (("noticed", ((0,), 1)), False),
                             (("noticed", ((1,), 2)), False), (("noticed", [(1,), 1]), False), (("noticed",), False),
                             (("large", []), False), (("large", [((), 0), ((1,), 1)]), False)]:
            self.assertIs(self.changed(program, 0, entry), right, entry)

    def test_large_for_a_noticed_one(self):
        # If joined, g alone is called: a checker that looks for no runs accepts that it is as large, or more.
        program = program_of(func("main", "addr a f", "addr b g", "same a b 5", "set d 1", "go 6", "call h", "tell d"),
                             func("f"), func("g"), func("h", "tell c"))
        self.assertEqual(smallest_paper(program)[2], [("noticed", ((), 0))])
        self.assertIs(self.changed(program, 0, ("large", [((), 0)])), True)
        self.assertIs(self.changed(program, 0, ("large", [])), False)

    LARGE = program_of(func("main", "choose 4", "addr a f", "callr a", "ret", "addr a g", "callr a", "tell c"),
                       func("f", "tell d", "tell d"), func("g", "tell d", "tell d"))

    def test_large(self):
        self.assertEqual((smallest(self.LARGE).addresses, size(image_at(self.LARGE, 0)), size(image_at(self.LARGE, 1))),
                         ((("m.f", "m.g"),), 9, 11))
        for moments, right in [([((0,), 1), ((1,), 1)], True), ([((1,), 1), ((0,), 1), ((), 0)], True), ([((0,), 1)], True),
                               ([((1,), 1)], True), ([((), 0)], False), ([], False), ([((0,), 1), ((0,), 0)], False),
                               ((((0,), 1), ((1,), 1)), False), (None, False)]:
            self.assertIs(self.changed(self.LARGE, 0, ("large", moments)), right, moments)
            for word in ("other", "Large", "", Odd(), None):
                self.assertIs(self.changed(self.LARGE, 0, (word, moments)), False)

    def test_larger_if_ahead(self):
        # Both images have one size, so the first one is the smallest.
        program = program_of(func("main", "addr a f", "addr b g", "callr a"), func("f", "tell d"), func("g", "tell d"))
        addresses, pairs, entries = smallest_paper(program)
        self.assertEqual((addresses, entries[0][0]), ((("m.f", "m.g"),), "large"))
        self.assertIs(check_smallest(program, (addresses, pairs, entries)), True)
        apart = (("m.f",), ("m.g",))
        image = image_at(program, 1)
        self.assertEqual(size(image), size(image_at(program, 0)))
        self.assertIs(check_smallest(program, (apart, table(program, image), [("large", [((), 0)])])), False)

    def test_the_size_is_that_of_all_states_of_the_table(self):
        program = program_of(func("main", "choose 4", "addr a f", "callr a", "ret", "addr a g", "callr a", "tell c"),
                             func("f", "tell d"), func("g", "tell d"), func("h", "tell d", "tell d"))
        addresses, pairs, entries = smallest_paper(program)
        self.assertEqual((addresses, entries[0][0]), ((("m.f", "m.g"),), "large"))
        # One more pair that uses h: of a larger size than the other image has.
        more = [((((("m.main", 0), ("m.h", number)), ZEROS)),) * 2 for number in range(3)]
        begins = [pair for pair in together(program, image_at(program, 0), *more[0])]
        self.assertIs(check_smallest(program, (addresses, pairs + begins, entries)), True)
        calling = program_of(func("main", "choose 4", "addr a f", "callr a", "ret", "addr a g", "callr a", "tell c"),
                             func("f", "tell d"), func("g", "tell d"), func("h", "call i"), func("i", *["tell c"] * 9))
        addresses, pairs, entries = smallest_paper(calling)
        state = ((("m.main", 0), ("m.h", 0)), ZEROS)
        begins = together(calling, image_at(calling, 0), state, state)
        self.assertIs(check_smallest(calling, (addresses, pairs, entries)), True)
        self.assertIs(check_smallest(calling, (addresses, pairs + begins, entries)), False)

    def test_only_the_smallest_at_random(self):
        refused = 0
        for program in programs_at_random(120):
            paper = smallest_paper(program)
            self.assertIs(check_smallest(program, paper), True)
            entries = dict(zip([parts for parts in partitions(program.taken) if parts != paper[0]], paper[2]))
            for folding in itertools.islice(foldings(program), 5):
                image = Image(folding)
                pairs = table(program, image)
                if folding.addresses != paper[0] and pairs is not None:
                    moments = list(slow_walk(image_of(program, paper[0])).values())
                    others = [entries.get(parts, ("large", moments)) for parts in partitions(program.taken)
                              if parts != folding.addresses]
                    self.assertIs(check_smallest(program, (folding.addresses, pairs, others)), False)
                    refused += 1
        self.assertGreater(refused, 20)


class ByItself(unittest.TestCase):

    def test_it_needs_no_search(self):
        program = Entries.LARGE
        paper = smallest_paper(program)
        moment = ((1,), 1)
        self.assertEqual([name for name in ("notice", "table", "together", "unlike_moment", "uses", "Likeness", "smallest")
                          if name in vars(checker)], [])
        with mock.patch("foldsame.likeness.least_paths", None), mock.patch("foldsame.walking.Walk", None):
            self.assertIs(check_smallest(program, paper), True)
            self.assertIs(check_moment(program, Image(plain(program)), moment), False)

    def test_likeness_like_the_other_way(self):
        for program in programs_at_random(150):
            for addresses in partitions(program.taken)[:8]:
                likeness = Likeness(program, addresses)
                fold = Fold(joins_of(program), addresses)
                self.assertEqual((fold.legal, fold.parted()), (likeness.holds, likeness.bodies))


if __name__ == "__main__":
    unittest.main()
