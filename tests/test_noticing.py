"""Noticing: which images a run tells from their programs, what runs use, and the size of it."""

import itertools
import unittest
from unittest import mock

from helpers import ZEROS, data, error_of, func, long_program, main_of, program_of, programs_at_random
from helpers import slow_event, slow_notice, slow_size, slow_uses, slow_walk
from foldsame.errors import LimitExceeded
from foldsame.foldings import Folding, foldings, plain
from foldsame.images import Image, load
from foldsame.likeness import Likeness, least_bodies
from foldsame.machine import at, begin, event_of, record
from foldsame.noticing import notice, size, table, together, unlike_moment, uses
from foldsame.programs import Program

LIMIT = (LimitExceeded, 200)


def joined(program):
    """The image of the first folding."""
    return Image(list(foldings(program))[0])


def compared_later(many, *rest):
    """A run of so many states, at the last of which two addresses are compared, if there are rows for it."""
    return long_program(many, func("f"), func("g"), first=["addr a f", "addr b g"], last=rest)


class Document(unittest.TestCase):

    def test_example_of_the_document(self):
        main = 'export main\nfunc main\naddr a f\naddr b g\nsame a b 4\ntell c\nend'
        program = Program({'m': main + '\nfunc f\nend\nfunc g\nend'})
        images = [Image(one) for one in foldings(program)]
        self.assertEqual(([notice(program, one) for one in images], [size(one) for one in images]),
                         ([((), 0), None], [4, 4]))

    def test_by_parameter_names(self):
        program = main_of("tell a")
        state = begin(program)
        self.assertIsNone(unlike_moment(second=state, first=state, other=program, one=program))
        self.assertEqual(len(together(second=state, first=state, other=program, one=program)), 2)
        self.assertIsNone(notice(image=program, program=program))
        self.assertEqual(len(table(image=program, program=program)), 2)
        self.assertEqual((uses(code=program), size(image=program)), ((("m.main",), ()), 1))


class Noticed(unittest.TestCase):

    def test_fewer_events_before_smaller_choices(self):
        program = program_of(func("main", "addr a f", "addr b g", "choose 6", "tell c", "same a b 8", "tell c",
                                  "same a b 8", "tell c"), func("f"), func("g"))
        self.assertEqual(notice(program, joined(program)), ((1,), 1))

    def test_the_smallest_choices_of_several(self):
        program = program_of(func("main", "addr a f", "addr b g", "choose 3", "choose 4", "same a b 6", "tell c"),
                             func("f"), func("g"))
        self.assertEqual(notice(program, joined(program)), ((0, 0), 2))
        program = program_of(func("main", "addr a f", "addr b g", "choose 4", "go 4", "same a b 6", "tell c"),
                             func("f"), func("g"))
        self.assertEqual(notice(program, joined(program)), ((0,), 1))

    def test_choices_in_their_order(self):
        program = program_of(func("main", "choose 2", "set c 1", "choose 4", "set d 1", "addr a f", "addr b g",
                                  "same d c 9", "same a b 9", "tell d"), func("f"), func("g"))
        moment = ((0, 1), 2)
        self.assertEqual(notice(program, joined(program)), moment)
        self.assertEqual(event_of(program, at(program, moment))[0], ("told", 0))
        self.assertEqual(event_of(joined(program), at(joined(program), moment))[0], ("ended", "done"))

    def test_not_noticed(self):
        program = program_of(func("main", "addr a f", "addr b g", "callr a", "callr b"), func("f", "tell c"),
                             func("g", "tell c"))
        for folding in foldings(program):
            self.assertIsNone(notice(program, Image(folding)))
        program = program_of(func("main", "addr a f", "addr b g", "same a b 4", "go 4", "tell c"), func("f"), func("g"))
        self.assertIsNone(notice(program, joined(program)))

    def test_silence_is_told(self):
        program = program_of(func("main", "addr a f", "addr b g", "same a b 3", "go 3", "tell c"), func("f"), func("g"))
        image = joined(program)
        self.assertEqual((record(program, []), record(image, [])), ((("ended", "silent"),), (("ended", "silent"),)))
        program = program_of(func("main", "addr a f", "addr b g", "same a b 4", "go 3"), func("f"), func("g"))
        self.assertEqual(notice(program, joined(program)), ((), 0))

    def test_bodies_alone_are_never_noticed(self):
        for program in programs_at_random(100):
            addresses = plain(program).addresses
            for bodies in (Likeness(program, addresses).bodies, least_bodies(program, addresses)):
                image = Image(Folding(program, addresses, bodies))
                self.assertIsNone(notice(program, image))
                self.assertIsNone(unlike_moment(image, program, begin(image), begin(program)))

    def test_like_a_slow_search(self):
        found = []
        for program in programs_at_random(300):
            for folding in itertools.islice(foldings(program), 8):
                image = Image(folding)
                found.append(slow_notice(program, image, (begin(program), begin(image))))
                self.assertEqual(notice(program, image), found[-1])
                self.assertEqual(notice(program, load(str(image))), found[-1])
        self.assertGreater(len([moment for moment in found if moment is not None]), 10)


class Together(unittest.TestCase):

    def test_pairs_in_their_order(self):
        program = main_of("choose 3", "tell a", "go 5", "set b 1", "tell b", "tell c")
        pairs = together(program, program, begin(program), begin(program))
        moments = [((), 0), ((0,), 1), ((1,), 1), ((0,), 2), ((1,), 2), ((0,), 3), ((1,), 3)]
        self.assertEqual(pairs, [(at(program, moment), at(program, moment)) for moment in moments])
        self.assertEqual([type(pairs)] + [type(pair) for pair in pairs], [list] + [tuple] * 7)

    def test_each_pair_once(self):
        program = main_of("choose 1", "choose 0")
        self.assertEqual(table(program, program), [(begin(program), begin(program)), (((("m.main", 1),), ZEROS),) * 2,
                                                   (((("m.main", 2),), ZEROS),) * 2])

    def test_none_if_unlike(self):
        program = program_of(func("main", "tell c", "addr a f", "addr b g", "same a b 5", "tell c"), func("f"), func("g"))
        self.assertIsNone(table(program, joined(program)))
        self.assertEqual(unlike_moment(program, joined(program), begin(program), begin(program)), ((), 1))

    def test_from_any_two_states(self):
        one, other = main_of("tell a", "tell b"), main_of("tell b", "tell b", "set b 1", "tell b")
        later = ((("m.main", 2),), ZEROS)
        self.assertEqual(unlike_moment(one, other, begin(one), begin(other)), ((), 2))
        self.assertEqual(unlike_moment(one, other, begin(one), later), ((), 0))
        self.assertEqual(together(one, other, ((("m.main", 2),), ZEROS), ((("m.main", 4),), ZEROS)),
                         [(((("m.main", 2),), ZEROS), ((("m.main", 4),), ZEROS))])
        self.assertEqual(together(one, one, begin(one), begin(one)), [(at(one, ((), number)),) * 2 for number in range(3)])

    def test_one_code_that_meets_itself_later(self):
        ring = main_of("tell a", "go 0")
        pairs = together(ring, ring, begin(ring), at(ring, ((), 1)))
        self.assertEqual(len(pairs), 2)
        twice = main_of("tell a", "tell a", "set b 1", "go 0")
        pairs = together(ring, twice, begin(ring), begin(twice))
        self.assertEqual([pair[1][0][0][1] for pair in pairs], [0, 1, 2, 1, 2])

    def test_images_beside_images(self):
        program = program_of(func("main", "addr a f", "callr a"), func("f", "tell b"), func("g", "tell b"))
        images = [Image(folding) for folding in foldings(program)]
        for one, other in itertools.product([program, *images], repeat=2):
            self.assertIsNone(unlike_moment(one, other, begin(one), begin(other)))
            self.assertEqual(len(together(one, other, begin(one), begin(other))), 2)

    def test_list_is_new_each_time(self):
        program = main_of("tell a")
        table(program, program).clear()
        self.assertEqual(len(table(program, program)), 2)

    def test_closed_at_random(self):
        for program in programs_at_random(80):
            image = joined(program)
            pairs = table(program, image)
            if pairs is not None:
                self.assertEqual(len(set(pairs)), len(pairs))
                order = [(begin(program), begin(image))]
                for one, other in pairs:
                    for pair in zip(slow_event(program, one)[2], slow_event(image, other)[2]):
                        order.extend([] if pair in order else [pair])
                self.assertEqual(pairs, order)


class Limits(unittest.TestCase):

    def test_200_pairs_and_201(self):
        right = compared_later(200)
        self.assertEqual(len(table(right, joined(right))), 200)
        self.assertIsNone(notice(right, joined(right)))
        for many in (201, 209):
            wrong = compared_later(many)
            self.assertEqual(error_of(notice, wrong, joined(wrong)), LIMIT)
            self.assertEqual(error_of(table, wrong, joined(wrong)), LIMIT)

    def test_an_unlike_pair_among_the_first_ones(self):
        program = compared_later(200, "same a b 16")
        self.assertIsNone(notice(program, joined(program)))
        # The program ends behind the last of the 200 states, the image is silent.
        unlike = compared_later(200, "same a b 15")
        self.assertEqual(notice(unlike, joined(unlike)), ((), 199))

    def test_an_unlike_pair_behind_the_first_ones(self):
        program = compared_later(201, "same a b 15")
        self.assertEqual(error_of(notice, program, joined(program)), LIMIT)

    def test_200_states_and_201(self):
        for call in (uses, size):
            self.assertIsNone(error_of(call, long_program(200)))
            self.assertIsNone(error_of(call, joined(long_program(200))))
            for many in (201, 209):
                self.assertEqual(error_of(call, long_program(many)), LIMIT)
                self.assertEqual(error_of(call, joined(long_program(many))), LIMIT)

    def test_from_other_states(self):
        program = long_program(209)
        for number, error in [(8, LIMIT), (9, None), (10, None)]:
            state = at(program, ((), number))
            for call in (unlike_moment, together):
                self.assertEqual(error_of(call, program, program, state, state), error)

    def test_smaller_limits_like_a_slow_search(self):
        told = {"limit": 0, "moment": 0, "none": 0}
        for most in (1, 2, 3, 4, 5, 6, 8):
            with mock.patch("foldsame.walking.MOST_REACHED", most):
                for program in programs_at_random(60):
                    image = joined(program)
                    try:
                        wanted = slow_notice(program, image, (begin(program), begin(image)), most)
                        self.assertEqual(notice(program, image), wanted)
                        told["none" if wanted is None else "moment"] += 1
                    except LimitExceeded:
                        self.assertEqual(error_of(notice, program, image), (LimitExceeded, most))
                        self.assertEqual(error_of(table, program, image), (LimitExceeded, most))
                        told["limit"] += 1
                    wanted = (LimitExceeded, most) if error_of(slow_walk, program, most) else None
                    self.assertEqual(error_of(uses, program), wanted)
        self.assertGreater(min(told.values()), 5)


class Uses(unittest.TestCase):

    def check(self, wanted, *parts):
        program = program_of(*parts)
        self.assertEqual(uses(program), wanted)
        self.assertEqual(uses(Image(plain(program))), wanted)

    def test_the_entry_always(self):
        self.check((("m.main",), ()), func("main"), func("f"))

    def test_call(self):
        self.check((("m.f", "m.main"), ()), func("main", "call f", "callr a"), func("f"), func("g"))
        self.check((("m.f", "m.g", "m.main"), ()), func("main", "call g"), func("g", "call f"), func("f"))

    def test_what_no_run_reaches(self):
        self.check((("m.f", "m.main"), ()), func("main", "call f", "ret", "call g"), func("f"), func("g"))
        self.check((("m.main",), ()), func("main", "go 2", "call f"), func("f"))

    def test_each_choice(self):
        self.check((("m.f", "m.g", "m.main"), ()), func("main", "choose 3", "call f", "ret", "call g"), func("f"),
                   func("g"))

    def test_callr(self):
        self.check((("m.f", "m.main"), ("m.f",)), func("main", "addr a f", "addr b g", "callr a"), func("f"), func("g"))

    def test_read(self):
        self.check((("m.main", "m.x"), ()), func("main", "read a x 0"), data("x", "f"), func("f"))

    def test_readr(self):
        self.check((("m.main", "m.x"), ("m.x",)), func("main", "addr a x", "readr b a 0", "tell b"), data("x", "1"))

    def test_readr_that_finds_too_few_words(self):
        self.check((("m.main", "m.x"), ("m.x",)), func("main", "addr a x", "readr b a 1", "call f"), data("x", "1"),
                   func("f"))

    def test_faults_use_nothing(self):
        self.check((("m.main",), ()), func("main", "addr a x", "callr a"), data("x", "1"))
        self.check((("m.main",), ()), func("main", "addr a f", "readr a a 0"), func("f"))

    def test_what_is_taken_or_compared_or_moved(self):
        self.check((("m.main",), ()), func("main", "addr a f", "addr b g", "same a b 0", "move c a", "tell d"), func("f"),
                   func("g"))
        self.check((("m.main", "m.x"), ()), func("main", "read a x 0", "same a b 0"), data("x", "y"), data("y"))

    def test_deep_calls(self):
        chain = [func("main", "call f"), func("f", "call g"), func("g", "call h")]
        self.check((("m.f", "m.g", "m.h", "m.main"), ()), *chain, func("h", "call i"), func("i"))
        self.check((("m.f", "m.g", "m.h", "m.main"), ()), *chain, func("h", "addr a i", "callr a"), func("i"))

    def test_the_61st_silent_instruction(self):
        # Two instructions, three calls of 17 instructions each, and 7 more are 60.
        for last, bodies, addresses in [("call f", ("m.f",), ()), ("callr b", ("m.f",), ("m.f",)),
                                        ("read a x 0", ("m.x",), ()), ("readr a c 0", ("m.x",), ("m.x",)),
                                        ("readr a c 9", ("m.x",), ("m.x",))]:
            for many in (7, 8):
                program = program_of(func("main", "addr b f", "addr c x", *["call w"] * 3, *["set d 1"] * many, last),
                                     func("w", *["set d 1"] * 15), func("f"), data("x", "1"))
                found = tuple(sorted(["m.main", "m.w", *(bodies if many == 7 else ())]))
                self.assertEqual(uses(program), (found, addresses if many == 7 else ()))

    def test_like_a_slow_search(self):
        for program in programs_at_random(200):
            codes = [program, *[Image(folding) for folding in itertools.islice(foldings(program), 4)]]
            for code in codes:
                bodies, addresses, _ = slow_uses(code)
                self.assertEqual(uses(code), (bodies, addresses))
                self.assertEqual(size(code), slow_size(code))


class Sizes(unittest.TestCase):

    def sizes(self, *parts):
        return [size(Image(folding)) for folding in foldings(program_of(*parts))]

    def test_stubs_of_functions(self):
        for many, stub in [(0, 0), (1, 1), (2, 2), (3, 2), (4, 2), (16, 2)]:
            body = ["tell d"] * many
            found = self.sizes(func("main", "addr a f", "addr b g", "callr a", "callr b"), func("f", *body),
                               func("g", *body))
            self.assertEqual(found, [4 + many, 4 + many + stub])

    def test_several_addresses_of_one_body(self):
        names = ["f", "g", "h"]
        main = func("main", *[word for name in names for word in (f"addr a {name}", "callr a")])
        found = self.sizes(main, *[func(name, "tell d", "tell d", "tell d") for name in names])
        self.assertEqual(found, [9, 11, 11, 11, 13])

    def test_data_once_more(self):
        main = func("main", "addr a x", "addr b y", "readr c a 0", "readr d b 0")
        for many in (1, 2, 3, 7):
            self.assertEqual(self.sizes(main, data("x", *["1"] * many), data("y", *["1"] * many)), [4 + many, 4 + 2 * many])

    def test_an_address_that_is_only_compared_costs_nothing(self):
        body = ["tell d"] * 5
        found = self.sizes(func("main", "addr a f", "addr b g", "callr a", "same a b 0"), func("f", *body), func("g", *body))
        self.assertEqual(found, [9, 9])

    def test_calls_by_name_cost_nothing_more(self):
        body = ["tell d"] * 5
        found = self.sizes(func("main", "call f", "addr b g", "callr b", "call f"), func("f", *body), func("g", *body))
        self.assertEqual(found, [9])

    def test_what_no_run_uses_is_left_out(self):
        self.assertEqual(self.sizes(func("main", "ret", "call f"), func("f", "tell a")), [2])


if __name__ == "__main__":
    unittest.main()
