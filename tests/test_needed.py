"""What is needed: when runs use what, and codes that are stripped."""

import itertools
import unittest

from helpers import ANY_VALUES, NO_FULL_NAMES, ZEROS, Odd, data, error_of, func, long_program, main_of, program_of
from helpers import programs_at_random, slow_event, slow_uses, slow_walk
from foldsame.checker import check_moment, check_size, check_table, check_together
from foldsame.errors import BadValue, LimitExceeded
from foldsame.foldings import Folding, foldings, plain
from foldsame.images import Image, load
from foldsame.machine import at, begin, event_of, record
from foldsame.needed import Stripped, check_states, check_unused, states, stripped, use_moments
from foldsame.noticing import notice, size, table, together, unlike_moment, uses
from foldsame.programs import Program
from foldsame.replacing import Patch

LIMIT = (LimitExceeded, 200)
MISSING = ("ended", "missing")


def slow_moments(code):
    """What use_moments tells, by the slow walk."""
    bodies, addresses = {code.entry: ((), 0)}, {}
    for state, moment in sorted(slow_walk(code).items(), key=lambda row: (row[1][1], row[1][0])):
        used = []
        slow_event(code, state, used)
        for name in used:
            (bodies if isinstance(name, str) else addresses).setdefault(name if isinstance(name, str) else name[1], moment)
    return tuple(sorted(bodies.items())), tuple(sorted(addresses.items()))


def end_of(code, *choices):
    """The last item of a record."""
    return record(code, list(choices))[-1]


class UseMoments(unittest.TestCase):

    def test_the_entry_alone(self):
        self.assertEqual(use_moments(main_of()), ((("m.main", ((), 0)),), ()))
        # What is only compared or held is not used.
        program = program_of(func("main", "addr a f", "addr b g", "same a b 4", "tell c"), func("f"), func("g"))
        self.assertEqual(use_moments(program), ((("m.main", ((), 0)),), ()))

    def test_call_and_callr(self):
        program = program_of(func("main", "tell a", "call f", "addr a g", "choose 5", "ret", "callr a"),
                             func("f"), func("g"), func("h"))
        self.assertEqual(use_moments(program),
                         ((("m.f", ((), 1)), ("m.g", ((1,), 2)), ("m.main", ((), 0))), (("m.g", ((1,), 2)),)))

    def test_the_entry_again(self):
        program = program_of(func("main", "tell a", "call main"))
        self.assertEqual(use_moments(program), ((("m.main", ((), 0)),), ()))

    def test_a_call_that_is_too_deep_uses_nothing(self):
        program = program_of(func("main", "call f"), func("f", "call g"), func("g", "call h"), func("h", "call i"),
                             func("i"))
        self.assertEqual([name for name, _ in use_moments(program)[0]], ["m.f", "m.g", "m.h", "m.main"])
        program = program_of(func("main", "addr a i", "call f"), func("f", "call g"), func("g", "call h"),
                             func("h", "callr a"), func("i"))
        self.assertEqual(use_moments(program)[1], ())

    def test_read_and_readr(self):
        program = program_of(func("main", "read a d 1", "tell a", "addr b e", "readr c b 0", "tell c"),
                             data("d", "1", "2"), data("e", "3"), data("x"))
        self.assertEqual(use_moments(program),
                         ((("m.d", ((), 0)), ("m.e", ((), 1)), ("m.main", ((), 0))), (("m.e", ((), 1)),)))

    def test_readr_that_finds_too_few_words(self):
        program = program_of(func("main", "addr b e", "readr c b 1"), data("e", "3"))
        self.assertEqual(use_moments(program), ((("m.e", ((), 0)), ("m.main", ((), 0))), (("m.e", ((), 0)),)))

    def test_faults_that_use_nothing(self):
        for rows in (["callr a"], ["addr a d", "callr a"], ["addr a f", "readr b a 0"], ["readr b a 0"]):
            program = program_of(func("main", *rows, "addr c d", "addr c f"), func("f"), data("d", "1"))
            self.assertEqual(use_moments(program), ((("m.main", ((), 0)),), ()), rows)

    def test_the_61st_silent_instruction(self):
        # Each call of s makes 17 instructions: itself, 15 rows, and the end.
        for ahead, used in [(60, True), (61, False)]:
            program = program_of(func("main", "call s", "call s", "call s", *["set a 1"] * (ahead - 51), "call f"),
                                 func("s", *["set b 1"] * 15), func("f"))
            self.assertEqual("m.f" in dict(use_moments(program)[0]), used, ahead)
            self.assertEqual(end_of(program), ("ended", "silent"))

    def test_at_random(self):
        for program in programs_at_random(150, start=900):
            self.assertEqual(use_moments(program), slow_moments(program))
            for folding in list(foldings(program))[:2]:
                image = Image(folding)
                if error_of(uses, image) is None:
                    self.assertEqual(use_moments(image), slow_moments(image))

    def test_it_says_what_uses_says(self):
        for program in programs_at_random(60, start=700):
            told = use_moments(program)
            self.assertEqual(tuple(tuple(name for name, _ in rows) for rows in told), uses(program))


class States(unittest.TestCase):

    def test_the_order(self):
        program = main_of("choose 2", "tell a", "tell b")
        self.assertEqual(states(program), [((("m.main", n),), ZEROS) for n in (0, 1, 2, 3)])
        program = main_of("choose 3", "tell b", "ret", "choose 1")
        self.assertEqual([state[0][0][1] for state in states(program)], [0, 1, 3, 2, 4])

    def test_new_lists(self):
        program = main_of("tell a")
        states(program).append(None)
        self.assertEqual(len(states(program)), 2)

    def test_at_random(self):
        for program in programs_at_random(100, start=300):
            moments = slow_walk(program)
            self.assertEqual(states(program), sorted(moments, key=lambda state: (moments[state][1], moments[state][0])))

    def test_200_and_201(self):
        for many, error in [(199, None), (200, None), (201, LIMIT), (209, LIMIT)]:
            program = long_program(many)
            self.assertEqual([error_of(call, program) for call in (states, use_moments, stripped, uses)], [error] * 4)
            if error is None:
                self.assertEqual(len(states(program)), many)
                self.assertIs(check_states(program, states(program)), True)


class CheckStates(unittest.TestCase):

    PROGRAM = program_of(func("main", "addr a f", "choose 3", "tell b", "callr a"), func("f", "tell c", "call g"), func("g"))

    def test_right_ones(self):
        right = states(self.PROGRAM)
        for value in (right, right[::-1], right + right, [*right, ((("m.main", 4),), (0, 0, 0, 7))]):
            self.assertIs(check_states(self.PROGRAM, value), True)
        # Each state that follows one of them has to be there, too.
        self.assertIs(check_states(self.PROGRAM, [*right, ((("m.main", 2),), (0, 9, 0, 0))]), False)

    def test_one_left_out(self):
        right = states(self.PROGRAM)
        for place in range(len(right)):
            self.assertIs(check_states(self.PROGRAM, right[:place] + right[place + 1:]), False)

    def test_wrong_in_one_place(self):
        right = states(self.PROGRAM)
        wrong = [*ANY_VALUES, ((), ZEROS), ((("m.f", 0),) * 5, ZEROS), ((("m.none", 0),), ZEROS), ((("m.f", 3),), ZEROS),
                 ((("m.f", -1),), ZEROS), ((("m.f", True),), ZEROS), ((("m.f", 0, 0),), ZEROS), ((("m.f", 0),), ZEROS[1:]),
                 ((("m.f", 0),), (0, 0, 0, 100)), ((("m.f", 0),), (0, 0, 0, -1)), ((("m.f", 0),), (0, 0, 0, False)),
                 ((("m.f", 0),), (0, 0, 0, ("at", "m.g"))), ((("m.f", 0),), (0, 0, 0, ("to", "m.f"))),
                 ((("m.f", 0),), (0, 0, 0, ("at", ["m.f"]))), [(("m.f", 0),), ZEROS], ((("m.f", 0),), [0, 0, 0, 0]),
                 ([("m.f", 0)], ZEROS), ((["m.f", 0],), ZEROS), ((("m.f", 0),), ZEROS, 0)]
        for value in wrong:
            self.assertIs(check_states(self.PROGRAM, [*right, value]), False)
            self.assertIs(check_unused(self.PROGRAM, [*right, value], "m.none"), False)

    def test_frames_of_data_are_none(self):
        program = program_of(func("main"), data("d", "1"))
        self.assertIs(check_states(program, [*states(program), ((("m.d", 0),), ZEROS)]), False)

    def test_any_values(self):
        for value in [*ANY_VALUES, tuple(states(self.PROGRAM)), dict.fromkeys(states(self.PROGRAM))]:
            self.assertIs(check_states(self.PROGRAM, value), False)
            self.assertIs(check_unused(self.PROGRAM, value, "m.g"), False)
            self.assertIs(check_unused(self.PROGRAM, value, value, address=True), False)


class CheckUnused(unittest.TestCase):

    PROGRAM = program_of(func("main", "addr a f", "addr b h", "choose 4", "ret", "callr a", "read c d 0"), func("f", "call g"),
                         func("g"), func("h"), data("d", "1"), data("e", "1", "f"))

    def test_bodies(self):
        program, right = self.PROGRAM, states(self.PROGRAM)
        found = [name for name in program.pieces if check_unused(program, right, name)]
        self.assertEqual(found, ["m.e", "m.h"])
        self.assertEqual(found, [name for name in program.pieces if check_unused(program, right, name, address=False)])

    def test_addresses(self):
        program, right = self.PROGRAM, states(self.PROGRAM)
        self.assertEqual([name for name in program.pieces if not check_unused(program, right, name, address=True)], ["m.f"])

    def test_the_entry_is_used(self):
        program = main_of()
        self.assertIs(check_unused(program, states(program), "m.main"), False)
        self.assertIs(check_unused(program, states(program), "m.main", address=True), True)

    def test_names_that_nothing_has(self):
        program, right = self.PROGRAM, states(self.PROGRAM)
        for name in [*NO_FULL_NAMES, *ANY_VALUES, "f", "m.main.old"]:
            if name != "m.f" or isinstance(name, Odd):
                self.assertIs(check_unused(program, right, name), True)
                self.assertIs(check_unused(program, right, name, address=True), True)

    def test_more_states_may_use_more(self):
        program = self.PROGRAM
        more = [*states(program), ((("m.main", 4),), (("at", "m.h"), 0, 0, 0))]
        more += [((("m.main", 5), ("m.h", 0)), (("at", "m.h"), 0, 0, 0))]
        self.assertIs(check_states(program, more), True)
        self.assertEqual([check_unused(program, more, "m.h"), check_unused(program, more, "m.h", address=True)], [False] * 2)
        self.assertIs(check_unused(program, more, "m.e"), True)

    def test_by_name_alone(self):
        with self.assertRaises(TypeError):
            check_unused(self.PROGRAM, [], "m.f", True)

    def test_at_random(self):
        for program in programs_at_random(80, start=40):
            bodies, addresses, _ = slow_uses(program)
            right = states(program)
            for name in program.pieces:
                self.assertIs(check_unused(program, right, name), name not in bodies)
                self.assertIs(check_unused(program, right, name, address=True), name not in addresses)


class Strip(unittest.TestCase):

    def test_by_each_instruction(self):
        callr = program_of(func("main", "addr a f", "callr a", "tell b"), func("f"))
        readr = program_of(func("main", "addr a d", "readr b a 0", "tell b"), data("d", "1"))
        few = program_of(func("main", "addr a d", "readr b a 1", "tell b"), data("d", "1"))
        for program, bodies, addresses in [
                (program_of(func("main", "call f", "tell b"), func("f")), ("m.main",), ()),
                (program_of(func("main", "read b d 0", "tell b"), data("d", "1")), ("m.main",), ()),
                (callr, ("m.main",), ("m.f",)), (callr, ("m.main", "m.f"), ()), (callr, ("m.main",), ()),
                (readr, ("m.main",), ("m.d",)), (readr, ("m.main", "m.d"), ()),
                (few, ("m.main",), ("m.d",)), (few, ("m.main", "m.d"), ())]:
            code = Stripped(program, bodies, addresses)
            self.assertEqual(record(code, []), (MISSING,))
            event, frames, behind = event_of(code, begin(code))
            self.assertEqual((event, behind), (MISSING, []))
            self.assertEqual(frames[0][1], 0 if program.rows_of("m.main")[0][0] in ("call", "read") else 1)
            # Nothing is used where the run ends.
            self.assertEqual(uses(code), (("m.main",), ()))
            self.assertEqual(record(stripped(program), []), record(program, []))

    def test_where_it_is_not_used(self):
        for rows in (["addr a d", "callr a"], ["addr a f", "readr b a 0"], ["callr b"], ["readr a b 0"], ["tell a"]):
            program = program_of(func("main", *rows, "addr c f", "addr c d"), func("f"), data("d", "1"))
            self.assertEqual(record(Stripped(program, ("m.main",), ()), []), record(program, []))
        deep = program_of(func("main", "call main", "call f"), func("f"))
        self.assertEqual(record(Stripped(deep, ("m.main",), ()), []), (("ended", "deep"),))

    def test_by_the_61st_silent_instruction(self):
        main = ["call s", "call s", "call s", *["set a 1"] * 9, "call f"]
        program = program_of(func("main", *main), func("s", *["set b 1"] * 15), func("f"))
        self.assertEqual((record(program, []), uses(program)[0]), ((("ended", "silent"),), ("m.f", "m.main", "m.s")))
        self.assertEqual(record(Stripped(program, ("m.main", "m.s"), ()), []), (MISSING,))
        program = program_of(func("main", "set a 1", *main), func("s", *["set b 1"] * 15), func("f"))
        self.assertEqual(record(Stripped(program, ("m.main", "m.s"), ()), []), (("ended", "silent"),))

    def test_attributes_and_keeps(self):
        program = program_of(func("main", "addr a f", "addr a g"), func("f"), func("g"))
        code = Stripped(program, ("m.main", "m.f", "m.main"), ("m.g",))
        self.assertEqual((code.bodies, code.addresses, code.entry), (("m.main", "m.f", "m.main"), ("m.g",), "m.main"))
        self.assertEqual([code.keeps(name) for name in ("m.main", "m.f", "m.g", "m.none")], [True, True, False, False])
        self.assertEqual([code.keeps("m.f", name) for name in ("m.f", "m.g", None)], [False, True, True])
        self.assertIs(code.keeps("m.g", "m.g"), False)
        self.assertIs(code.keeps("m.f", address="m.g"), True)

    def test_stripped_again(self):
        program = program_of(func("main", "addr a f", "callr a", "call g"), func("f"), func("g"))
        inner = Stripped(program, ("m.main", "m.f"), ("m.f",))
        # By names of the whole code: also those that are left out already.
        outer = Stripped(inner, program.pieces, program.taken)
        self.assertEqual([outer.keeps(name) for name in program.pieces], [True, False, True])
        self.assertEqual(outer.bodies, program.pieces)
        outer = Stripped(inner, ("m.g", "m.main"), ())
        self.assertEqual([outer.keeps(name) for name in program.pieces], [False, False, True])
        self.assertEqual((outer.keeps("m.f", "m.f"), inner.keeps("m.f", "m.f")), (False, True))
        self.assertEqual((end_of(inner), end_of(outer)), (MISSING, MISSING))
        self.assertEqual(uses(inner), (("m.f", "m.main"), ("m.f",)))
        self.assertEqual(uses(outer), (("m.main",), ()))
        self.assertEqual(stripped(stripped(program)).bodies, program.pieces)

    def test_wrong_values(self):
        program = program_of(func("main", "addr a f"), func("f"), data("d"))
        images = [Image(plain(program)), load(str(Image(plain(program))))]
        for code in [program, *images, Stripped(program, ("m.main",), ()), Patch(program, "m.f", "")]:
            for value in [*ANY_VALUES, ("m.f",), ["m.main"], ("m.main", "m.none"), ("m.main", ["m.f"]), ("m.main", Odd()),
                          (Odd(), "m.main"), "m.main"]:
                self.assertEqual(error_of(Stripped, code, value, [])[:1], (BadValue,))
                self.assertIs(error_of(Stripped, code, value, 5)[1], value)
            for value in [*ANY_VALUES, ("m.main",), ("m.d",), ["m.f"], ("m.f", Odd()), "m.f", ("m.f", "m.none")]:
                if value not in [(), ("m.f",)] or isinstance(value, Odd) or Odd in [type(one) for one in value]:
                    found = error_of(Stripped, code, ("m.main",), value)
                    self.assertIs(found[0], BadValue)
                    self.assertIs(found[1], value)

    def test_names_of_images(self):
        program = program_of(func("main", "addr a f", "addr b g", "callr b"), func("f"), func("g"))
        image = Image(Folding(program, (("m.f", "m.g"),), (("m.f", "m.g"), ("m.main",))))
        for bodies, addresses in [(("m.main", "m.g"), ()), (("m.main",), ("m.g",))]:
            self.assertIs(error_of(Stripped, image, bodies, addresses)[0], BadValue)
        code = Stripped(image, ("m.f", "m.main"), ("m.f",))
        self.assertEqual(record(code, []), (("ended", "done"),))
        self.assertIsNone(notice(program, code))

    def test_all_that_is_used_is_needed(self):
        for program in programs_at_random(120, start=500):
            codes = [program, Image(plain(program)), Image(list(foldings(program))[0]), Patch(program, "m.f", "tell a")
                     if program.kind_of("m.f") == "func" else program]
            for code in codes:
                if error_of(uses, code) is not None:
                    continue
                bodies, addresses = uses(code)
                start = begin(code)
                whole = stripped(code)
                self.assertEqual((whole.bodies, whole.addresses), (bodies, addresses))
                self.assertIsNone(unlike_moment(code, whole, start, start))
                self.assertEqual((uses(whole), states(whole), use_moments(whole)),
                                 ((bodies, addresses), states(code), use_moments(code)))
                for name in bodies:
                    if name != code.entry:
                        part = Stripped(code, tuple([one for one in bodies if one != name]), addresses)
                        self.missing_at(code, part, dict(use_moments(code)[0])[name])
                for name in addresses:
                    part = Stripped(code, bodies, tuple([one for one in addresses if one != name]))
                    self.missing_at(code, part, dict(use_moments(code)[1])[name])

    def missing_at(self, code, part, moment):
        """The run of this least moment, and no one ahead of it, ends as something is missing."""
        start = begin(code)
        self.assertEqual(unlike_moment(code, part, start, start), moment)
        self.assertEqual(event_of(part, at(part, moment))[0], MISSING)

    def test_with_the_slow_machine(self):
        for number, program in enumerate(programs_at_random(120, start=2000)):
            others = [name for name in program.pieces if name != program.entry]
            bodies = (program.entry, *[name for place, name in enumerate(others) if (number + place) % 3])
            addresses = tuple([name for place, name in enumerate(program.taken) if (number + place) % 4])
            code = Stripped(program, bodies, addresses)
            for state in states(code):
                used = []
                self.assertEqual(event_of(code, state), slow_event(program, state, used, kept=(bodies, addresses)))

    def test_the_checker_takes_them(self):
        program = program_of(func("main", "addr a f", "addr b g", "choose 4", "ret", "callr a", "tell c"), func("f"), func("g"))
        image = Image(list(foldings(program))[0])
        whole, part = stripped(image), Stripped(image, ("m.main",), ())
        pairs = table(program, image)
        self.assertEqual(table(program, whole), pairs)
        self.assertIs(check_table(program, whole, pairs), True)
        self.assertIs(check_table(program, part, pairs), False)
        self.assertEqual(notice(program, part), ((1,), 1))
        self.assertEqual([check_moment(program, code, ((1,), 1)) for code in (whole, part)], [False, True])
        start = begin(image)
        self.assertIs(check_together(image, whole, [(start, start)], together(image, whole, start, start)), True)
        self.assertEqual((size(whole), size(part)), (size(image), 6))
        moments = [moment for rows in use_moments(whole) for _, moment in rows]
        self.assertEqual([check_size(whole, moments, least) for least in (size(whole), size(whole) + 1)], [True, False])

    def test_the_example(self):
        main = "export main\nfunc main\naddr a f\naddr b g\nsame a b 4\ntell c\nend"
        program = Program({"m": main + "\nfunc f\nend\nfunc g\nend"})
        self.assertEqual((uses(program), check_unused(program, states(program), "m.f")), ((("m.main",), ()), True))
        code = stripped(program)
        for choices in itertools.product((0, 1), repeat=2):
            self.assertEqual(record(code, list(choices)), record(program, list(choices)))


if __name__ == "__main__":
    unittest.main()
