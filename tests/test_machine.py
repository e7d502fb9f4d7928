"""The machine: instructions, ends, events, moments, and records."""

import itertools
import unittest

from helpers import ANY_VALUES, ZEROS, Odd, data, func, long_program, main_of, program_of
from helpers import programs_at_random, slow_event, slow_walk
from foldsame.errors import BadValue
from foldsame.foldings import foldings
from foldsame.images import Image, load
from foldsame.machine import at, begin, event_of, record, records
from foldsame.programs import Program

DONE, FAULT, DEEP, SILENT = ("ended", "done"), ("ended", "fault"), ("ended", "deep"), ("ended", "silent")
ASKED = ("asked",)


def told(*numbers):
    return tuple([("told", number) for number in numbers])


def ran(*parts):
    """The record of a program without choices."""
    return record(program_of(*parts), [])


def ran_main(*given):
    return ran(func("main", *given))


class Document(unittest.TestCase):

    def test_example_of_the_document(self):
        program = Program({'m': 'export main\nfunc main\nchoose 3\nset a 1\nret\ntell a\nend'})
        self.assertEqual((record(program, [0]), record(program, [1])),
                         ((('asked',), ('chosen', 0), ('ended', 'done')),
                          (('asked',), ('chosen', 1), ('told', 0), ('ended', 'done'))))
        self.assertEqual(event_of(program, begin(program))[2],
                         [((('m.main', 1),), (0, 0, 0, 0)), ((('m.main', 3),), (0, 0, 0, 0))])

    def test_by_parameter_names(self):
        program = main_of("choose 1", "tell a")
        state = begin(code=program)
        self.assertEqual(event_of(code=program, state=state)[0], ASKED)
        self.assertEqual(at(moment=((), 0), code=program), state)
        self.assertEqual(record(most=1, choices=[0], code=program), (ASKED, ("chosen", 0)))
        self.assertEqual(list(records(most=0, code=program)), [(ASKED,)])


class Beginning(unittest.TestCase):

    def test_first_state(self):
        self.assertEqual(begin(main_of()), ((("m.main", 0),), ZEROS))
        program = Program({"m": "export go1\n" + func("go1")}, "go1")
        self.assertEqual(begin(program), ((("m.go1", 0),), ZEROS))
        self.assertEqual([type(part) for part in begin(program)], [tuple, tuple])

    def test_entry_by_an_alias_of_another_module(self):
        program = Program({"m": "export main\nalias main f", "n": "export f\n" + func("f", "tell a")})
        self.assertEqual(begin(program)[0], (("n.f", 0),))
        self.assertEqual(record(program, []), (*told(0), DONE))


class Instructions(unittest.TestCase):

    def test_set_and_tell_each_register(self):
        for register in "abcd":
            for number in (0, 1, 7, 99):
                self.assertEqual(ran_main(f"set {register} {number}", f"tell {register}"), (*told(number), DONE))

    def test_registers_are_apart(self):
        self.assertEqual(ran_main("set a 1", "set b 2", "set c 3", "set d 4", "tell a", "tell b", "tell c", "tell d"),
                         (*told(1, 2, 3, 4), DONE))

    def test_move_takes_the_value_of_the_second(self):
        self.assertEqual(ran_main("set a 1", "set b 2", "move a b", "set b 3", "tell a", "tell b"), (*told(2, 3), DONE))
        self.assertEqual(ran_main("set a 5", "move a a", "tell a"), (*told(5), DONE))

    def test_registers_are_the_same_ones_for_all_frames(self):
        self.assertEqual(ran(func("main", "set a 1", "call f", "tell a", "tell b"), func("f", "tell a", "set b 4")),
                         (*told(1, 1, 4), DONE))

    def test_go(self):
        self.assertEqual(ran_main("go 2", "tell a", "set a 3", "tell a"), (*told(3), DONE))
        self.assertEqual(ran_main("go 2", "tell a"), (DONE,))
        self.assertEqual(ran_main("set a 1", "go 4", "tell a", "ret", "same a b 3", "go 2")[0], ("told", 1))

    def test_addr_gives_the_full_name(self):
        program = program_of(func("main", "addr c f", "choose 2"), func("f"))
        self.assertEqual(event_of(program, begin(program))[2][0][1], (0, 0, ("at", "m.f"), 0))

    def test_call_and_ret(self):
        self.assertEqual(ran(func("main", "call f", "set a 2", "tell a"), func("f", "tell a", "ret", "tell b")),
                         (*told(0, 2), DONE))

    def test_a_function_ends_behind_its_last_instruction(self):
        self.assertEqual(ran(func("main", "call f", "set a 2", "tell a"), func("f", "tell a")), (*told(0, 2), DONE))
        self.assertEqual(ran(func("main", "call f", "tell a"), func("f")), (*told(0), DONE))
        self.assertEqual(ran(func("main", "call f", "tell a"), func("f", "go 2", "tell b")), (*told(0), DONE))

    def test_ret_at_the_only_frame(self):
        self.assertEqual(ran_main("ret", "tell a"), (DONE,))
        self.assertEqual(ran_main(), (DONE,))
        self.assertEqual(ran(func("main", "call main2", "ret"), func("main2", "ret")), (DONE,))

    def test_callr(self):
        self.assertEqual(ran(func("main", "addr d f", "callr d", "tell a"), func("f", "set a 8")), (*told(8), DONE))

    def test_callr_of_what_is_no_function(self):
        self.assertEqual(ran_main("callr a", "tell a"), (FAULT,))
        self.assertEqual(ran(func("main", "set a 5", "callr a"), func("f")), (FAULT,))
        self.assertEqual(ran(func("main", "addr a x", "callr a"), data("x", "f"), func("f")), (FAULT,))

    def test_a_function_may_call_itself_and_the_entry(self):
        self.assertEqual(ran_main("tell a", "call main"), (*told(0, 0, 0, 0), DEEP))
        self.assertEqual(ran_main("addr a main", "tell b", "callr a"), (*told(0, 0, 0, 0), DEEP))

    def test_read(self):
        self.assertEqual(ran(func("main", "read b x 2", "tell b", "read b x 0", "tell b"), data("x", "7", "8", "9")),
                         (*told(9, 7), DONE))

    def test_read_of_an_address(self):
        self.assertEqual(ran(func("main", "read b x 0", "callr b"), data("x", "f"), func("f", "set a 3", "tell a")),
                         (*told(3), DONE))

    def test_readr_at_the_last_word_and_one_beyond(self):
        words = ("7", "8", "9")
        for number, ends in [(0, (*told(7), DONE)), (2, (*told(9), DONE)), (3, (FAULT,)), (99, (FAULT,))]:
            self.assertEqual(ran(func("main", "addr a x", f"readr b a {number}", "tell b"), data("x", *words)), ends)
        self.assertEqual(ran(func("main", "addr a x", "readr a a 0"), data("x")), (FAULT,))

    def test_readr_into_its_own_register(self):
        self.assertEqual(ran(func("main", "addr a x", "readr a a 0", "readr a a 1", "tell a"), data("x", "y", "1"),
                             data("y", "2", "3")), (*told(3), DONE))

    def test_readr_of_what_is_no_data(self):
        self.assertEqual(ran_main("readr a b 0", "tell a"), (FAULT,))
        self.assertEqual(ran(func("main", "addr b f", "readr a b 0"), func("f", "tell a")), (FAULT,))

    def test_same_with_integers(self):
        self.assertEqual(ran_main("same a b 2", "tell a", "set a 4", "tell a"), (*told(4), DONE))
        self.assertEqual(ran_main("set b 1", "same a b 3", "tell a", "tell b"), (*told(0, 1), DONE))
        self.assertEqual(ran_main("same a a 2", "tell a"), (DONE,))

    def test_same_with_addresses(self):
        alike = func("main", "addr a f", "addr b f", "same a b 4", "tell c")
        self.assertEqual(ran(alike, func("f")), (DONE,))
        unlike = func("main", "addr a f", "addr b g", "same a b 4", "tell c")
        self.assertEqual(ran(unlike, func("f"), func("g")), (*told(0), DONE))

    def test_same_with_one_of_each(self):
        for registers in ("a b", "b a"):
            self.assertEqual(ran(func("main", "addr a f", f"same {registers} 3", "tell c"), func("f")),
                             (*told(0), DONE))

    def test_tell_of_an_address(self):
        self.assertEqual(ran(func("main", "tell b", "addr a f", "tell a", "tell b"), func("f")), (*told(0), FAULT))
        self.assertEqual(ran(func("main", "addr a x", "tell a"), data("x")), (FAULT,))

    def test_choose(self):
        program = main_of("choose 3", "set a 1", "go 4", "set a 2", "tell a")
        self.assertEqual(record(program, [0])[2:], (*told(1), DONE))
        self.assertEqual(record(program, [1])[2:], (*told(2), DONE))

    def test_choose_behind_the_last_instruction(self):
        program = main_of("choose 1")
        state = ((("m.main", 1),), ZEROS)
        self.assertEqual(event_of(program, begin(program)), (ASKED, (("m.main", 0),), [state, state]))


class Depth(unittest.TestCase):

    CHAIN = (func("main", "call f"), func("f", "call g"), func("g", "tell a", "call h"))

    def test_the_fourth_frame(self):
        self.assertEqual(ran(*self.CHAIN, func("h", "tell a")), (*told(0, 0), DONE))
        self.assertEqual(ran(func("main", "addr b f", "callr b"), func("f", "addr b g", "callr b"),
                             func("g", "addr b h", "callr b"), func("h", "tell a")), (*told(0), DONE))

    def test_the_fifth_frame_by_call(self):
        program = program_of(*self.CHAIN, func("h", "set a 1", "call i"), func("i", "tell a"))
        self.assertEqual(record(program, []), (*told(0), DEEP))
        state = at(program, ((), 1))
        self.assertEqual(event_of(program, state)[1], (("m.main", 1), ("m.f", 1), ("m.g", 2), ("m.h", 1)))

    def test_the_fifth_frame_by_callr(self):
        self.assertEqual(ran(*self.CHAIN, func("h", "addr a i", "callr a"), func("i")), (*told(0), DEEP))

    def test_callr_of_no_function_at_four_frames(self):
        self.assertEqual(ran(*self.CHAIN, func("h", "callr a"), func("i")), (*told(0), FAULT))
        self.assertEqual(ran(*self.CHAIN, func("h", "addr a x", "callr a"), data("x")), (*told(0), FAULT))

    def test_frames_go_and_come_again(self):
        self.assertEqual(ran(func("main", *["call f"] * 3), func("f", "call g"), func("g", "call h"),
                             func("h", "tell a")), (*told(0, 0, 0), DONE))


class Silence(unittest.TestCase):

    def silent(self, many, *ends, first=()):
        """A program of so many silent instructions ahead of its last rows: 14 each for a call of f, 8 for g."""
        f = func("f", *["set d 1"] * 12)
        g = func("g", *["set d 1"] * 6)
        calls, rest = divmod(many, 14)
        more, rest = divmod(rest, 8)
        return program_of(func("main", *first, *["call f"] * calls, *["call g"] * more, *["set d 1"] * rest, *ends),
                          f, g)

    def test_sixty_and_sixty_one_from_the_beginning(self):
        self.assertEqual(record(self.silent(60, "tell a"), []), (*told(0), DONE))
        self.assertEqual(record(self.silent(61, "tell a"), []), (SILENT,))
        self.assertEqual(record(self.silent(62, "tell a"), []), (SILENT,))

    def test_sixty_and_sixty_one_from_an_event(self):
        self.assertEqual(record(self.silent(60, "tell a", first=["tell c"]), []), (*told(0, 0), DONE))
        self.assertEqual(record(self.silent(61, "tell a", first=["tell c"]), []), (*told(0), SILENT))
        self.assertEqual(record(self.silent(60, "tell a", first=["choose 1"]), [1])[2:], (*told(0), DONE))
        self.assertEqual(record(self.silent(61, "tell a", first=["choose 1"]), [1])[2:], (SILENT,))

    def test_each_event_as_the_61st_instruction(self):
        self.assertEqual(record(self.silent(60, "choose 0"), []), (ASKED,))
        self.assertEqual(record(self.silent(60, "ret"), []), (DONE,))
        self.assertEqual(record(self.silent(60), []), (DONE,))
        self.assertEqual(record(self.silent(61), []), (SILENT,))
        self.assertEqual(record(self.silent(60, "callr a"), []), (FAULT,))
        self.assertEqual(record(self.silent(61, "callr a"), []), (SILENT,))

    def test_the_number_behind_the_last_one_counts(self):
        # Fifteen calls of a function of two instructions are 60.
        turn = program_of(func("main", *["call f"] * 15, "tell a"), func("f", *["set b 1"] * 2))
        self.assertEqual(record(turn, []), (*told(0), DONE))
        turn = program_of(func("main", *["call f"] * 15, "tell a"), func("f", "set b 1", "set b 2", "ret"))
        self.assertEqual(record(turn, []), (*told(0), DONE))
        turn = program_of(func("main", "set b 1", *["call f"] * 15), func("f", *["set b 1"] * 2))
        self.assertEqual(record(turn, []), (SILENT,))

    def test_rings(self):
        self.assertEqual(ran_main("go 0"), (SILENT,))
        self.assertEqual(ran_main("tell a", "go 1"), (*told(0), SILENT))

    def test_frames_at_the_61st(self):
        program = main_of("set a 1", "set b 1", "go 0")
        self.assertEqual(event_of(program, begin(program)), (SILENT, (("m.main", 0),), []))
        program = main_of("set a 1", "go 0")
        self.assertEqual(event_of(program, begin(program)), (SILENT, (("m.main", 0),), []))
        program = main_of("set b 1", "set c 1", "set a 1", "set d 2", "go 2")
        self.assertEqual(event_of(program, begin(program))[1], (("m.main", 3),))

    def test_a_call_as_the_61st(self):
        program = program_of(func("main", "call f", "call f", "call f", "call f", "set a 1", "set a 1", "set a 1",
                                  "set a 1", "call f"), func("f", *["set a 1"] * 12))
        self.assertEqual(event_of(program, begin(program)), (SILENT, (("m.main", 8),), []))


class Events(unittest.TestCase):

    def test_followers_stand_right_behind(self):
        program = program_of(func("main", "call f", "tell b"), func("f", "set b 2", "tell b"))
        event, frames, followers = event_of(program, begin(program))
        self.assertEqual((event, frames), (("told", 2), (("m.main", 1), ("m.f", 1))))
        self.assertEqual(followers, [((("m.main", 1), ("m.f", 2)), (0, 2, 0, 0))])
        event, frames, followers = event_of(program, followers[0])
        self.assertEqual((event, frames), (("told", 2), (("m.main", 1),)))
        self.assertEqual(event_of(program, followers[0]), (DONE, (("m.main", 2),), []))

    def test_kinds_of_values(self):
        program = main_of("choose 1", "tell a")
        for state in slow_walk(program):
            found = event_of(program, state)
            self.assertEqual([type(part) for part in found], [tuple, tuple, tuple, list][1:])
            for follower in found[2]:
                self.assertEqual([type(part) for part in (follower, *follower, *follower[0])],
                                 [tuple] * (3 + len(follower[0])))

    def test_ends_have_no_followers(self):
        for program in [main_of(), main_of("callr a"), main_of("go 0"), main_of("call main")]:
            self.assertEqual(event_of(program, begin(program))[2], [])

    def test_list_is_new_each_time(self):
        program = main_of("choose 1", "tell a")
        one = event_of(program, begin(program))
        one[2].clear()
        self.assertEqual(len(event_of(program, begin(program))[2]), 2)

    def test_like_a_slow_machine(self):
        for program in programs_at_random(150):
            codes = [program, *[Image(folding) for folding in itertools.islice(foldings(program), 4)]]
            for code in codes + [load(str(code)) for code in codes[1:]]:
                for state, moment in slow_walk(code).items():
                    self.assertEqual(event_of(code, state), slow_event(code, state))
                    self.assertEqual(at(code, moment), state)


class Moments(unittest.TestCase):

    def test_states_of_moments(self):
        program = main_of("tell a", "choose 3", "set b 1", "tell b")
        self.assertEqual(at(program, ((), 0)), begin(program))
        self.assertEqual(at(program, ((), 1)), ((("m.main", 1),), ZEROS))
        self.assertEqual(at(program, ((0,), 2)), ((("m.main", 2),), ZEROS))
        self.assertEqual(at(program, ((1,), 2)), ((("m.main", 3),), ZEROS))
        self.assertEqual(at(program, ((0,), 3)), ((("m.main", 4),), (0, 1, 0, 0)))

    def check_none(self, program, moment):
        with self.assertRaises(BadValue) as caught:
            at(program, moment)
        self.assertIs(caught.exception.value, moment)

    def test_too_few_or_too_many_choices(self):
        program = main_of("tell a", "choose 3", "set b 1", "tell b")
        for moment in [((0,), 0), ((0,), 1), ((), 2), ((0, 0), 2), ((), 3), ((0, 1), 3)]:
            self.check_none(program, moment)

    def test_nothing_stands_behind_an_end(self):
        program = main_of("tell a")
        self.assertEqual(at(program, ((), 1)), ((("m.main", 1),), ZEROS))
        for number in (2, 3, 200):
            self.check_none(program, ((), number))

    def test_200_events_and_201(self):
        for program, choice in [(main_of("tell a", "go 0"), ()), (main_of("choose 0", "go 0"), (1,))]:
            self.assertEqual(at(program, (choice * 200, 200))[1], ZEROS)
            self.check_none(program, (choice * 201, 201))
            self.check_none(program, (choice * 500, 500))

    def test_values_that_are_none(self):
        program = main_of("choose 0", "choose 0", "choose 0")
        self.assertEqual(at(program, ((1, 1), 2)), begin(program))
        wrong = [(1, 1), ([1, 1], 2), ((1, 1), 2.0), ((1, 1), "2"), ((True, 1), 2), ((1, True), 2), ((1, False), 2),
                 ((1, 2), 2), ((1, -1), 2), ((1, 1.0), 2), ((1, None), 2), ("11", 2), ((1,), True), ((), False),
                 ((), -1), [(1, 1), 2], ((1, 1), 2, 0), ((1, 1),), (2, (1, 1)), ((1, Odd()), 2), ((1, 1), Odd()),
                 (Odd(), 2), ((1, (1,)), 2), ((1, [1]), 2)]
        for moment in ANY_VALUES + wrong:
            self.check_none(program, moment)


class Records(unittest.TestCase):

    ASKING = main_of("tell a", "choose 0", "tell a", "go 0")

    def test_up_to_the_end(self):
        self.assertEqual(record(main_of("tell a", "tell a"), []), (*told(0, 0), DONE))

    def test_up_to_an_asking(self):
        self.assertEqual(record(self.ASKING, []), (*told(0), ASKED))
        self.assertEqual(record(self.ASKING, [1]), (*told(0), ASKED, ("chosen", 1), *told(0), ASKED))

    def test_choices_left_over(self):
        self.assertEqual(record(main_of("tell a"), [0, 1, 1]), (*told(0), DONE))
        self.assertEqual(record(main_of("choose 1"), [0, 1]), (ASKED, ("chosen", 0), DONE))

    def test_each_most(self):
        whole = (*told(0), ASKED, ("chosen", 0), *told(0, 0), ASKED, ("chosen", 1), *told(0), ASKED)
        for most, many in enumerate([0, 1, 3, 3, 4, 5, 7, 7, 8, 9, 9, 9]):
            self.assertEqual(record(self.ASKING, [0, 1], most), whole[:many], most)
            self.assertEqual(record(self.ASKING, [0, 1], most=most), whole[:many], most)

    def test_most_with_the_end(self):
        program = main_of("tell a", "tell a")
        for most in range(5):
            self.assertEqual(record(program, [], most), (*told(0, 0), DONE)[:most])

    def test_most_where_no_choice_is_left(self):
        self.assertEqual(record(self.ASKING, [], 2), (*told(0), ASKED))
        self.assertEqual(record(self.ASKING, [0], 6), (*told(0), ASKED, ("chosen", 0), *told(0, 0), ASKED))

    def test_a_hundred_without_most(self):
        self.assertEqual(record(main_of("tell a", "go 0"), []), told(0) * 100)
        asked = (ASKED, ("chosen", 1)) * 50
        self.assertEqual(record(main_of("choose 0", "go 0"), [1] * 80), asked)
        self.assertEqual(record(main_of("tell a", "choose 1"), [1] * 80), (*told(0), *asked))
        self.assertEqual(len(record(main_of("tell a", "go 0"), [], 250)), 250)

    def test_values_that_are_no_list_of_0_and_1(self):
        wrong = [(), (0, 1), "01", None, 0, 1, True, {}, {0: 1}, {0}, range(2), [2], [-1], [0, 2], [True], [0, False],
                 [0.0], [1.0], ["0"], [None], [[0]], [(0,)], [Odd()], Odd(), b"\x00\x01", iter([0]), [0, 1, None]]
        for value in wrong:
            for program in (self.ASKING, main_of()):
                for most in ([], [0], [100]):
                    with self.assertRaises(BadValue) as caught:
                        record(program, value, *most)
                    self.assertIs(caught.exception.value, value)

    def test_choices_are_unchanged(self):
        choices = [0, 1, 0]
        record(self.ASKING, choices)
        self.assertEqual(choices, [0, 1, 0])

    def test_all_records_in_their_order(self):
        found = list(records(self.ASKING, 2))
        rows = [[], [0], [1], [0, 0], [0, 1], [1, 0], [1, 1]]
        self.assertEqual(found, [record(self.ASKING, row) for row in rows])

    def test_only_what_is_asked_for(self):
        program = main_of("choose 4", "choose 4", "tell a", "choose 4", "tell b")
        rows = [[], [0], [1], [0, 0], [0, 1], [0, 0, 0], [0, 0, 1]]
        for most in range(6):
            asked = [row for row in rows if len(row) <= most]
            self.assertEqual(list(records(program, most)), [record(program, row) for row in asked])

    def test_none_and_less(self):
        self.assertEqual(list(records(self.ASKING, 0)), [record(self.ASKING, [])])
        self.assertEqual(list(records(self.ASKING, -1)), [])

    def test_a_choice_beyond_the_record_is_not_asked_for(self):
        # 99 items ahead of the asking: it is the hundredth, and the next one is beyond the record.
        long = program_of(func("main", *["call f"] * 6, "tell a", "tell a", "tell a", "choose 0", "choose 0"),
                          func("f", *["tell a"] * 16))
        found = list(records(long, 3))
        self.assertEqual([len(items) for items in found], [100, 101, 101])
        beyond = program_of(func("main", *["call f"] * 6, "tell a", "tell a", "tell a", "tell a", "choose 0"),
                            func("f", *["tell a"] * 16))
        self.assertEqual([items for items in records(beyond, 3)], [told(0) * 100])

    def test_step_by_step(self):
        steps = records(self.ASKING, 10 ** 9)
        self.assertEqual([next(steps) for _ in range(3)], [record(self.ASKING, row) for row in ([], [0], [1])])

    def test_of_programs_at_random(self):
        for program in programs_at_random(40):
            rows = [list(row) for many in range(4) for row in itertools.product((0, 1), repeat=many)]
            asked = [row for row in rows if not row or record(program, row[:-1])[-1] == ASKED
                     and len([item for item in record(program, row) if item[0] == "chosen"]) == len(row)]
            self.assertEqual(list(records(program, 3)), [record(program, row) for row in asked])


class Images(unittest.TestCase):

    def test_callr_goes_to_the_body_of_the_address(self):
        program = program_of(func("main", "addr a g", "callr a"), func("f", "tell b"), func("g", "tell b"))
        image = Image(list(foldings(program))[0])
        self.assertEqual(event_of(image, begin(image))[1:],
                         ((("m.main", 2), ("m.f", 0)), [((("m.main", 2), ("m.f", 1)), (("at", "m.g"), 0, 0, 0))]))

    def test_addresses_are_first_pieces(self):
        program = program_of(func("main", "addr a g", "addr b f", "same a b 4", "tell c"), func("f"), func("g"))
        image = Image(list(foldings(program))[0])
        self.assertEqual((record(program, []), record(image, [])), ((*told(0), DONE), (DONE,)))

    def test_runs_of_a_long_program(self):
        program = long_program(194)
        self.assertEqual(len(record(program, [], 400)), 194)
        self.assertEqual(len(slow_walk(program)), 194)


if __name__ == "__main__":
    unittest.main()
