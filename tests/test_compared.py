"""What runs compare, and foldings that are sure."""

import itertools
import unittest

from helpers import ANY_VALUES, NO_FULL_NAMES, data, error_of, func, long_program, program_of, programs_at_random
from helpers import slow_uses, two_joinings
from foldsame.compared import compare_moment, compared, fewest, is_sure
from foldsame.errors import LimitExceeded, UnknownName
from foldsame.foldings import Folding, foldings, plain
from foldsame.images import Image
from foldsame.noticing import notice

LIMIT = (LimitExceeded, 200)
FOUR = (func("f"), func("g"), func("h", "ret"), func("i", "ret"))


class Document(unittest.TestCase):

    def test_example_of_the_document(self):
        program = two_joinings()
        self.assertEqual((compared(program), fewest(program).addresses),
                         ((('m.f', 'm.g'), ('m.h', 'm.i')), (('m.f',), ('m.g',), ('m.h',), ('m.i',))))

    def test_by_parameter_names(self):
        program = program_of(func("main", "addr a f", "addr b g", "same a b 0"), *FOUR)
        self.assertEqual(compared(program=program), (("m.f", "m.g"),))
        self.assertEqual(compare_moment(other="m.g", one="m.f", program=program), ((), 0))
        self.assertIs(is_sure(folding=plain(program)), True)
        self.assertEqual(fewest(program=program).addresses, plain(program).addresses)


class Compared(unittest.TestCase):

    def check(self, pairs, *rows):
        program = program_of(func("main", *rows), *FOUR, data("x", "f", "g"))
        self.assertEqual(compared(program), pairs)

    def test_two_addresses(self):
        self.check((("m.f", "m.g"),), "addr a f", "addr b g", "same a b 0")
        self.check((("m.f", "m.g"),), "addr a g", "addr b f", "same a b 0")
        self.check((("m.f", "m.h"),), "addr a h", "addr b f", "same b a 0")

    def test_alike_ones_and_integers(self):
        self.check((), "addr a f", "addr b f", "same a b 0")
        self.check((), "addr a f", "same a b 0", "same b a 0", "same a a 0")
        self.check((), "same a b 0")

    def test_what_is_never_compared(self):
        self.check((), "addr a f", "addr b g", "ret", "same a b 0")
        self.check((), "addr a f", "addr b g")

    def test_addresses_among_words_of_data(self):
        self.check((("m.f", "m.g"),), "read a x 0", "read b x 1", "same a b 0")

    def test_in_some_run_alone(self):
        for rows, pairs in [(["choose 3", "addr b f", "ret", "addr a f", "addr b g", "same a b 0"], (("m.f", "m.g"),)),
                            (["addr a f", "choose 3", "addr b g", "choose 5", "addr a h", "same a b 0"],
                             (("m.f", "m.g"), ("m.g", "m.h")))]:
            self.check(pairs, *rows)

    def test_ascending(self):
        self.check((("m.f", "m.g"), ("m.f", "m.i"), ("m.g", "m.h")), "addr a h", "addr b g", "same a b 0", "addr c f",
                   "addr a i", "same a c 0", "same b c 0")

    def test_in_other_functions(self):
        program = program_of(func("main", "addr a f", "addr b g", "call k"), *FOUR, func("k", "same a b 0"))
        self.assertEqual(compared(program), (("m.f", "m.g"),))

    def test_the_61st_silent_instruction(self):
        # Two instructions, three calls of 17 instructions each, and 7 more are 60.
        for many, pairs in [(7, (("m.f", "m.g"),)), (8, ())]:
            program = program_of(func("main", "addr a f", "addr b g", *["call w"] * 3, *["set d 1"] * many, "same a b 0"),
                                 *FOUR, func("w", *["set d 1"] * 15))
            self.assertEqual(compared(program), pairs)
            self.assertEqual(compare_moment(program, "m.f", "m.g"), ((), 0) if pairs else None)

    def test_like_a_slow_search(self):
        seen = 0
        for program in programs_at_random(300):
            _, _, moments = slow_uses(program)
            self.assertEqual(compared(program), tuple(sorted(moments)))
            for one, other in itertools.product(program.taken, repeat=2):
                moment = moments.get((min(one, other), max(one, other)))
                self.assertEqual(compare_moment(program, one, other), moment)
                seen += moment is not None
        self.assertGreater(seen, 20)


class Moments(unittest.TestCase):

    def test_the_least(self):
        rows = ["addr a f", "addr b g", "choose 4", "tell c", "choose 7", "tell d", "choose 7", "same a b 8", "ret"]
        program = program_of(func("main", *rows), *FOUR)
        self.assertEqual(compare_moment(program, "m.f", "m.g"), ((1, 1), 2))
        self.assertEqual(compare_moment(program, "m.g", "m.f"), ((1, 1), 2))

    def test_never(self):
        program = program_of(func("main", "addr a f", "addr b g", "addr c h", "same a b 0"), *FOUR)
        self.assertIsNone(compare_moment(program, "m.f", "m.h"))
        self.assertIsNone(compare_moment(program, "m.f", "m.f"))

    def test_unknown_names(self):
        program = program_of(func("main", "addr a f", "addr b g", "same a b 0"), *FOUR)
        for value in NO_FULL_NAMES + ANY_VALUES + ["m.h", "m.main"]:
            if not isinstance(value, str) or value not in program.taken:
                for pair in [(value, "m.f"), ("m.f", value), (value, None), (value, value)]:
                    with self.assertRaises(UnknownName) as caught:
                        compare_moment(program, *pair)
                    self.assertIs(caught.exception.value, value)


class Sure(unittest.TestCase):

    def test_foldings(self):
        program = program_of(func("main", "addr a f", "addr b g", "addr c h", "same a b 0"), func("f"), func("g"), func("h"))
        found = [(folding.addresses, is_sure(folding)) for folding in foldings(program)]
        self.assertEqual(found, [((("m.f", "m.g", "m.h"),), False), ((("m.f",), ("m.g", "m.h")), True),
                                 ((("m.f", "m.g"), ("m.h",)), False), ((("m.f", "m.h"), ("m.g",)), True),
                                 ((("m.f",), ("m.g",), ("m.h",)), True)])
        self.assertEqual(fewest(program).addresses, (("m.f",), ("m.g", "m.h")))

    def test_bodies_do_not_matter(self):
        program = program_of(func("main", "addr a f", "addr b g", "same a b 0"), func("f"), func("g"))
        for bodies in [(("m.f", "m.g"), ("m.main",)), (("m.f",), ("m.g",), ("m.main",))]:
            self.assertIs(is_sure(Folding(program, (("m.f",), ("m.g",)), bodies)), True)
        self.assertIs(is_sure(Folding(program, (("m.f", "m.g"),), (("m.f", "m.g"), ("m.main",)))), False)

    def test_a_folding_may_be_sure_or_not_where_it_is_not_noticed(self):
        program = program_of(func("main", "addr a f", "addr b g", "same a b 3"), func("f"), func("g"))
        folding = list(foldings(program))[0]
        self.assertIsNone(notice(program, Image(folding)))
        self.assertIs(is_sure(folding), False)

    def test_without_taken_pieces(self):
        program = program_of(func("main"), func("f"))
        self.assertEqual((compared(program), fewest(program).addresses, is_sure(plain(program))), ((), (), True))

    def test_at_random(self):
        for program in programs_at_random(150):
            pairs = compared(program)
            found = list(foldings(program))
            sure = [not any(one in part and other in part for part in folding.addresses for one, other in pairs)
                    for folding in found]
            self.assertEqual([is_sure(folding) for folding in found], sure)
            self.assertEqual(fewest(program), found[sure.index(True)])
            for folding in itertools.compress(found, sure):
                self.assertIsNone(notice(program, Image(folding)))


class Limits(unittest.TestCase):

    def test_all_raise_as_uses(self):
        for many, error in [(200, None), (201, LIMIT), (209, LIMIT)]:
            program = long_program(many, func("f"), func("g"), first=["addr a f", "addr b g"])
            self.assertEqual(error_of(compared, program), error)
            self.assertEqual(error_of(compare_moment, program, "m.f", "m.g"), error)
            self.assertEqual(error_of(compare_moment, program, "m.f", "m.f"), error)
            self.assertEqual(error_of(is_sure, plain(program)), error)
            self.assertEqual(error_of(fewest, program), error)

    def test_also_if_it_is_compared_at_once(self):
        program = long_program(201, func("f"), func("g"), first=["addr a f", "addr b g", "same a b 3"])
        self.assertEqual(error_of(compare_moment, program, "m.f", "m.g"), LIMIT)

    def test_unknown_names_ahead_of_the_limit(self):
        program = long_program(209, func("f"), first=["addr a f"])
        self.assertEqual(error_of(compare_moment, program, "m.f", "m.g"), (UnknownName, "m.g"))


if __name__ == "__main__":
    unittest.main()
