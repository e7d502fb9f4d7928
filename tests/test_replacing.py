"""Patches: other rows for a function while the program runs."""

import itertools
import unittest

from helpers import ANY_VALUES, NO_FULL_NAMES, ZEROS, Odd, branching_programs, data, error_of, func, long_program, main_of
from helpers import program_of, programs_at_random, rows, slow_notice, slow_pairs, slow_size, two_joinings
from foldsame.checker import check_table, check_together
from foldsame.errors import BadText, BadValue, LimitExceeded, Noticed, NotFunction, NotSure, UnknownName
from foldsame.foldings import Folding, foldings, partitions, plain
from foldsame.images import Image
from foldsame.likeness import Likeness
from foldsame.machine import at, begin, event_of, record
from foldsame.needed import states, stripped
from foldsame.noticing import notice, table, together, uses
from foldsame.programs import Program
from foldsame.replacing import Patch, carry, check_sure, fits, go_alike, replaceable, resume, sure_paper, unsure
from foldsame.smallest import smallest

LIMIT = (LimitExceeded, 200)
PAIR = program_of(func("main", "choose 3", "addr a p", "go 4", "addr a q", "callr a", "callr a"),
                  func("p", "set b 1", "tell b"), func("q", "set b 1", "tell b"))
FOLDED = Image(Folding(PAIR, (("m.p", "m.q"),), (("m.main",), ("m.p", "m.q"))))
UNSURE = (((0,), 2), ((1,), 2), ((), 0))


def slow_unsure(program, image, patch, most=200):
    """What unsure gives for an image that is not noticed."""
    moments = slow_pairs(program, image)
    ordered = sorted(moments, key=lambda pair: (moments[pair][1], moments[pair][0]))
    for state in dict.fromkeys([pair[1] for pair in ordered]):
        fitting = [pair[0] for pair in ordered if pair[1] == state]
        for other in fitting[1:]:
            later = slow_notice(patch, patch, (slow_carry(patch, fitting[0]), slow_carry(patch, other)), most)
            if later is not None:
                return (moments[(fitting[0], state)], moments[(other, state)], later)
    return None


def slow_carry(patch, state):
    return tuple([(name + ".old" if name == patch.name else name, number) for name, number in state[0]]), state[1]


def slow_replaceable(program, patch):
    """What replaceable gives where no limit is exceeded."""
    found = []
    for addresses in partitions(program.taken):
        if not Likeness(program, addresses).holds:
            continue
        for alone in [(), (patch.name,)]:
            likeness = Likeness(program, addresses, alone=alone)
            if likeness.holds:
                folding = Folding(program, addresses, likeness.bodies)
                image = Image(folding)
                if slow_notice(program, image, (begin(program), begin(image))) is None:
                    if slow_unsure(program, image, patch) is None:
                        found.append((slow_size(image), len(found), folding))
    return min(found, key=lambda row: row[:2])[2]


def some_patches(program):
    """Patches of the functions of a program."""
    texts = ["", "tell a", "set a 5\ntell a", "choose 0", "ret\nret", "tell a\ntell d"]
    names = [name for name in program.pieces if program.kind_of(name) == "func"]
    return [Patch(program, name, texts[place]) for place, name in enumerate(names[:len(texts)])]


class Making(unittest.TestCase):

    PROGRAM = Program({
        "m": rows("export main", "alias f1 f", "alias d1 d", func("main", "call f", "addr a e"), func("f", "call f", "call x"),
                  data("d", "1", "2"), data("e", "f", "7")),
        "n": rows("export x y", "alias y z", func("x", "call f"), func("f"), data("z", "3"))})

    def test_attributes(self):
        patch = Patch(self.PROGRAM, "m.f", "set a 3\ncall f\naddr b d")
        self.assertEqual((patch.program == self.PROGRAM, patch.name, patch.old, patch.entry), (True, "m.f", "m.f.old", "m.main"))
        self.assertEqual(patch.pieces, ("m.d", "m.e", "m.f", "m.f.old", "m.main", "n.f", "n.x", "n.z"))
        self.assertEqual((patch.taken, len(patch)), (("m.d", "m.e", "m.f"), 8))
        self.assertEqual(patch.rows_of("m.f"), (("set", "a", 3), ("call", "m.f"), ("addr", "b", "m.d")))
        self.assertEqual(patch.rows_of("m.f.old"), (("call", "m.f"), ("call", "n.x")))
        self.assertEqual([patch.kind_of(name) for name in patch.pieces], ["data", "data", *["func"] * 5, "data"])
        self.assertEqual([patch.rows_of(name) for name in ("m.main", "m.e", "n.x")],
                         [self.PROGRAM.rows_of(name) for name in ("m.main", "m.e", "n.x")])
        for value in ["m.f.old", "m.f", "m.e"]:
            self.assertIs(value in patch, True)
        self.assertEqual((self.PROGRAM.pieces, self.PROGRAM.taken), (("m.d", "m.e", "m.f", "m.main", "n.f", "n.x", "n.z"),
                                                                   ("m.e", "m.f")))

    def test_names_that_nothing_has(self):
        patch = Patch(self.PROGRAM, "m.f", "")
        for value in [value for value in [*NO_FULL_NAMES, *ANY_VALUES] if value != "m.f" or isinstance(value, Odd)]:
            self.assertIs(value in patch, False)
            for call in (patch.kind_of, patch.rows_of):
                found = error_of(call, value)
                self.assertIs(found[0], UnknownName)
                self.assertIs(found[1], value)
            for text in ("", "end", 5):
                found = error_of(Patch, self.PROGRAM, value, text)
                self.assertIs(found[0], UnknownName)
                self.assertIs(found[1], value)
        self.assertEqual(error_of(Patch, self.PROGRAM, "m.f1", ""), (UnknownName, "m.f1"))

    def test_data_is_no_function(self):
        for text in ("", "end", None):
            self.assertEqual(error_of(Patch, self.PROGRAM, "m.d", text), (NotFunction, "m.d"))

    def test_no_texts(self):
        for value in ANY_VALUES:
            if not isinstance(value, str):
                self.assertEqual(error_of(Patch, self.PROGRAM, "m.f", value), (BadText, None))

    def test_the_empty_text(self):
        self.assertEqual(Patch(self.PROGRAM, "m.f", "").rows_of("m.f"), ())

    def test_each_instruction(self):
        text = rows("call x", "callr a", "ret", "addr b y", "set c 99", "move a d", "read a d1 1", "readr a b 9", "same a b 11",
                    "choose 0", "tell d", "go 12")
        self.assertEqual(Patch(self.PROGRAM, "m.f", text).rows_of("m.f"), (
            ("call", "n.x"), ("callr", "a"), ("ret",), ("addr", "b", "n.z"), ("set", "c", 99), ("move", "a", "d"),
            ("read", "a", "m.d", 1), ("readr", "a", "b", 9), ("same", "a", "b", 11), ("choose", 0), ("tell", "d"), ("go", 12)))

    def test_wrong_rows(self):
        for row in ["", " ", "end", "tell", "tell a ", " tell a", "tell e", "set a 100", "set a 07", "set a x", "export f", "func f",
                    "alias a b", "ret a", "call", "call none", "call m.f", "call d", "call e", "call d1", "call y", "read a d 2",
                    "read a f 0", "read a e 2", "read a y 1", "read a none 0", "addr a none", "addr a", "addr a m.f", "tell\ta",
                    "go 3", "choose 4", "same a b 3", "go 99", "choose -1", "7", "f", "call f.old", "nothing"]:
            self.assertEqual(error_of(Patch, self.PROGRAM, "m.f", rows("tell a", row)), (BadText, 1), row)
            self.assertEqual(error_of(Patch, self.PROGRAM, "m.f", rows("tell a", row, "bad")), (BadText, 2 if row in ("go 3", "same a b 3") else 1), row)
            self.assertEqual(error_of(Patch, self.PROGRAM, "m.f", rows(*["tell a"] * 5, row, "also bad"))[0], BadText)
        for text, row in [("tell a\n", 1), ("\n", 0), ("\ntell a", 0), ("tell a\n\ntell a", 1), ("tell a\r\ntell a", 0)]:
            self.assertEqual(error_of(Patch, self.PROGRAM, "m.f", text), (BadText, row))

    def test_each_to(self):
        for word in ("go", "choose", "same a b"):
            for many, to in [(1, 1), (3, 3), (3, 0), (16, 16)]:
                text = rows(*["tell a"] * (many - 1), f"{word} {to}")
                self.assertEqual(Patch(self.PROGRAM, "m.f", text).rows_of("m.f")[-1][-1], to)
            for many, to in [(1, 2), (3, 4), (16, 17), (2, 99)]:
                text = rows(*["tell a"] * (many - 1), f"{word} {to}")
                self.assertEqual(error_of(Patch, self.PROGRAM, "m.f", text), (BadText, many - 1))
        # All of it row by row: the TO of the first row stands ahead of the next row.
        self.assertEqual(error_of(Patch, self.PROGRAM, "m.f", rows("go 3", "bad")), (BadText, 0))
        self.assertEqual(error_of(Patch, self.PROGRAM, "m.f", rows("call none", "go 3")), (BadText, 0))
        self.assertEqual(error_of(Patch, self.PROGRAM, "m.f", rows("go 2", "call none")), (BadText, 1))

    def test_16_rows_and_17(self):
        self.assertEqual(len(Patch(self.PROGRAM, "m.f", rows(*["tell a"] * 16)).rows_of("m.f")), 16)
        for many in (17, 18, 40):
            self.assertEqual(error_of(Patch, self.PROGRAM, "m.f", rows(*["tell a"] * many)), (BadText, 16))
            self.assertEqual(error_of(Patch, self.PROGRAM, "m.f", rows(*["tell a"] * 15, "bad", *["tell a"] * many)), (BadText, 15))
        self.assertEqual(error_of(Patch, self.PROGRAM, "m.f", rows(*["tell a"] * 16, "bad")), (BadText, 16))
        # A TO may go as far as there are rows.
        self.assertEqual(error_of(Patch, self.PROGRAM, "m.f", rows("go 17", *["tell a"] * 16)), (BadText, 16))
        self.assertEqual(error_of(Patch, self.PROGRAM, "m.f", rows("go 18", *["tell a"] * 16)), (BadText, 0))

    def test_names_of_the_function_s_module(self):
        self.assertEqual(Patch(self.PROGRAM, "m.main", "call f\ncall f1\ncall x").rows_of("m.main"),
                         (("call", "m.f"), ("call", "m.f"), ("call", "n.x")))
        self.assertEqual(Patch(self.PROGRAM, "n.x", "call f\naddr a z").rows_of("n.x"), (("call", "n.f"), ("addr", "a", "n.z")))
        self.assertEqual(error_of(Patch, self.PROGRAM, "n.x", "call f\ncall f1"), (BadText, 1))
        self.assertEqual(Patch(self.PROGRAM, "n.x", "call main").rows_of("n.x"), (("call", "m.main"),))

    def test_taken_ones(self):
        names = list("fghij")
        program = program_of(func("main", *[f"addr a {name}" for name in names]), *[func(name) for name in "fghijkl"])
        self.assertEqual(Patch(program, "m.f", "addr a k\naddr b f").taken, tuple("m." + name for name in "fghijk"))
        self.assertEqual(error_of(Patch, program, "m.f", "addr a k\naddr a l"), LIMIT[:1] + (6,))
        # The old rows still take what they took.
        self.assertEqual(error_of(Patch, program, "m.main", "addr a k\naddr a l"), LIMIT[:1] + (6,))
        self.assertEqual(Patch(program, "m.main", "addr a k").taken, tuple("m." + name for name in "fghijk"))
        self.assertEqual(error_of(Patch, program, "m.f", "addr a k\naddr a l\nbad"), (BadText, 2))

    def test_twelve_pieces(self):
        program = program_of(func("main"), *[func(name) for name in "fghijklmnop"])
        self.assertEqual(len(Patch(program, "m.f", "")), 13)


class Running(unittest.TestCase):

    def test_calls_from_then_on(self):
        program = program_of(func("main", "call f", "tell a", "call f", "addr b f", "callr b"), func("f", "set a 1", "tell a", "set a 2"))
        patch = Patch(program, "m.f", "set a 7\ntell a")
        self.assertEqual(record(patch, []), (("told", 7), ("told", 7), ("told", 7), ("told", 7), ("ended", "done")))
        state = at(program, ((), 1))
        carried = carry(patch, state)
        self.assertEqual(carried, ((("m.main", 1), ("m.f.old", 2)), (1, 0, 0, 0)))
        self.assertEqual(event_of(patch, carried)[0], ("told", 2))
        self.assertEqual(event_of(patch, event_of(patch, carried)[2][0])[0], ("told", 7))
        self.assertEqual(uses(patch), (("m.f", "m.main"), ("m.f",)))

    def test_carry(self):
        patch = Patch(PAIR, "m.p", "")
        one = ("m.main", 1), ("m.q", 0)
        address = (0, ("at", "m.p"), 3, ("at", "m.q"))
        for frames, wanted in [(one, one), ((("m.p", 1),), (("m.p.old", 1),)), (one + (("m.p", 2),), one + (("m.p.old", 2),)),
                               ((("m.p", 1), ("m.q", 1), ("m.p", 0)), (("m.p.old", 1), ("m.q", 1), ("m.p.old", 0)))]:
            self.assertEqual(carry(patch, (frames, address)), (wanted, address))

    def test_the_entry_itself(self):
        program = main_of("tell a", "call main")
        patch = Patch(program, "m.main", "tell b\ntell b")
        self.assertEqual(record(patch, []), (("told", 0), ("told", 0), ("ended", "done")))
        state = carry(patch, at(program, ((), 1)))
        self.assertEqual(state[0], (("m.main.old", 1),))
        self.assertEqual((patch.entry, event_of(patch, state)[1]), ("m.main", (("m.main.old", 2), ("m.main", 0))))

    def test_go_alike(self):
        program = main_of("tell a", "choose 0", "tell b")
        start = begin(program)
        self.assertIsNone(go_alike(program, start, start))
        self.assertIsNone(go_alike(program, start, ((("m.main", 0),), (0, 0, 5, 0))))
        self.assertEqual(go_alike(program, start, ((("m.main", 0),), (1, 0, 0, 0))), ((), 0))
        self.assertEqual(go_alike(program, start, ((("m.main", 0),), (0, 1, 0, 0))), ((0,), 2))
        for many, error in [(200, None), (201, LIMIT)]:
            long = long_program(many)
            self.assertEqual(error_of(go_alike, long, begin(long), begin(long)), error)
            self.assertEqual(error_of(go_alike, long, begin(long), ((("m.main", 0),), (0, 0, 0, 1))), None)
        patch = Patch(PAIR, "m.p", "set b 2\ntell b")
        states_ahead = [carry(patch, at(PAIR, ((choice,), 2))) for choice in (0, 1)]
        self.assertEqual(go_alike(patch, *states_ahead), ((), 0))

    def test_the_checker_takes_patches(self):
        patch = Patch(PAIR, "m.p", "set b 2\ntell b")
        start = begin(patch)
        pairs = together(patch, stripped(patch), start, start)
        self.assertIs(check_together(patch, stripped(patch), [(start, start)], pairs), True)
        self.assertIs(check_together(patch, patch, [(start, start)], pairs[1:]), False)
        self.assertEqual(notice(PAIR, patch), ((0,), 1))
        self.assertIs(check_table(patch, patch, table(patch, patch)), True)


class Fits(unittest.TestCase):

    def test_each_state_of_the_image(self):
        pairs = table(PAIR, FOLDED)
        for state in {there: True for _, there in pairs}:
            wanted = tuple([here for here, there in pairs if there == state])
            self.assertEqual(fits(PAIR, FOLDED, state), wanted)
        self.assertEqual([len(fits(PAIR, FOLDED, state)) for state in states(FOLDED)], [1, 1, 1, 2, 2])

    def test_by_their_least_moments(self):
        program = program_of(func("main", "choose 3", "addr a q", "go 4", "addr a p", "callr a", "callr a"),
                             func("p", "tell b"), func("q", "tell b"))
        image = Image(Folding(program, (("m.p", "m.q"),), (("m.main",), ("m.p", "m.q"))))
        found = fits(program, image, ((("m.main", 5), ("m.p", 1)), (("at", "m.p"), 0, 0, 0)))
        self.assertEqual([state[0][-1][0] for state in found], ["m.q", "m.p"])

    def test_other_values(self):
        right = ((("m.main", 5), ("m.p", 2)), (("at", "m.p"), 1, 0, 0))
        self.assertEqual(len(fits(PAIR, FOLDED, right)), 2)
        wrong = [*ANY_VALUES, list(right), (list(right[0]), right[1]), (right[0], list(right[1])), right[:1], (*right, 0),
                 ((("m.main", 5), ("m.p", 2)), (("at", "m.p"), True, 0, 0)), ((("m.main", 5), ("m.p", 2)), (("at", "m.p"), 1, 0, False)),
                 ((("m.main", 5), ("m.p", 2.0)), right[1]), ((("m.main", 5), ("m.q", 2)), right[1]),
                 (right[0], (("at", "m.q"), 1, 0, 0)), (right[0], (("at", "m.p"), 2, 0, 0)), (right[0], (Odd(), 1, 0, 0)),
                 (Odd(), Odd()), ((Odd(), Odd()), right[1]), (right[0], right[1][:3]), begin(PAIR)[0], at(PAIR, ((1,), 2))]
        patch = Patch(PAIR, "m.q", "")
        for value in wrong:
            self.assertEqual(fits(PAIR, FOLDED, value), ())
            found = error_of(resume, PAIR, FOLDED, patch, value)
            self.assertIs(found[0], BadValue)
            self.assertIs(found[1], value)

    def test_noticed_and_the_limit(self):
        program = two_joinings()
        patch = Patch(program, "m.f", "")
        image = Image(list(foldings(program))[1])
        for call in (fits, lambda *given: resume(*given[:2], patch, given[2])):
            for value in [*ANY_VALUES, begin(image)]:
                self.assertEqual(error_of(call, program, image, value), (Noticed, ((), 0)))
        for call in (unsure, sure_paper):
            self.assertEqual(error_of(call, program, image, patch), (Noticed, ((), 0)))
        for many, error in [(200, None), (201, LIMIT)]:
            long = long_program(many)
            image, patch = Image(plain(long)), Patch(long, "m.rest", "tell a")
            self.assertEqual([error_of(unsure, long, image, patch), error_of(sure_paper, long, image, patch),
                              error_of(fits, long, image, None), error_of(replaceable, long, patch)], [error] * 4)
            self.assertEqual(error_of(resume, long, image, patch, None), error or (BadValue, None))


class Sure(unittest.TestCase):

    def test_an_unsure_patch(self):
        patch = Patch(PAIR, "m.p", "set b 2\ntell b")
        self.assertEqual(unsure(PAIR, FOLDED, patch), UNSURE)
        self.assertIsNone(sure_paper(PAIR, FOLDED, patch))
        state = ((("m.main", 5), ("m.p", 2)), (("at", "m.p"), 1, 0, 0))
        self.assertEqual(error_of(resume, PAIR, FOLDED, patch, state), (NotSure, *UNSURE))
        # For states ahead of the choice it does not matter.
        self.assertEqual(resume(PAIR, FOLDED, patch, begin(FOLDED)), begin(PAIR))
        self.assertEqual(resume(PAIR, FOLDED, patch, ((("m.main", 1),), ZEROS)), ((("m.main", 1),), ZEROS))

    def test_a_sure_patch(self):
        for text in ["set b 1\ntell b", "set b 1\ntell b\nret\nret", "set b 1\nset c 1\ntell b"]:
            patch = Patch(PAIR, "m.p", text)
            self.assertIsNone(unsure(PAIR, FOLDED, patch), text)
            state = ((("m.main", 5), ("m.p", 2)), (("at", "m.p"), 1, 0, 0))
            self.assertEqual(resume(PAIR, FOLDED, patch, state), ((("m.main", 5), ("m.p.old", 2)), (("at", "m.p"), 1, 0, 0)))
            paper = sure_paper(PAIR, FOLDED, patch)
            self.assertEqual(paper[0], table(PAIR, FOLDED))
            self.assertIs(check_sure(PAIR, FOLDED, patch, paper), True)

    def test_where_all_is_apart(self):
        patch = Patch(PAIR, "m.p", "set b 2\ntell b")
        image = Image(plain(PAIR))
        self.assertIsNone(unsure(PAIR, image, patch))
        self.assertEqual(sure_paper(PAIR, image, patch), (table(PAIR, image), []))
        self.assertIs(check_sure(PAIR, image, patch, (table(PAIR, image), [])), True)

    def test_the_first_state_of_the_image(self):
        # Unsure at two states of the image: the earlier one is told.
        program = program_of(func("main", "choose 3", "addr a p", "go 4", "addr a q", "callr a", "tell c", "callr a"),
                             func("p", "tell b"), func("q", "tell b"))
        image = Image(Folding(program, (("m.p", "m.q"),), (("m.main",), ("m.p", "m.q"))))
        patch = Patch(program, "m.q", "tell b\ntell b")
        self.assertEqual(unsure(program, image, patch), (((0,), 2), ((1,), 2), ((), 2)))
        state = at(image, ((0,), 3))
        self.assertEqual(error_of(resume, program, image, patch, state), (NotSure, ((0,), 3), ((1,), 3), ((), 1)))

    def test_three_that_fit(self):
        rows_of_main = ["choose 3", "addr a p", "go 6", "addr a q", "choose 6", "addr a r", "callr a", "callr a"]
        program = program_of(func("main", *rows_of_main), *[func(name, "tell b") for name in "pqr"])
        image = Image(Folding(program, (("m.p", "m.q", "m.r"),), (("m.main",), ("m.p", "m.q", "m.r"))))
        for name, wanted in [("m.p", (((0,), 2), ((1, 0), 3), ((), 1))), ("m.q", (((0,), 2), ((1, 1), 3), ((), 1))),
                             ("m.r", (((0,), 2), ((1, 0), 3), ((), 1)))]:
            self.assertEqual(unsure(program, image, Patch(program, name, "tell c\ntell c")), wanted)

    def test_the_limit_of_two_states(self):
        # Two states fit one of the image, and once they are carried they go on alike for long.
        program = program_of(func("main", "choose 3", "addr a p", "go 4", "addr a q", "callr a", "call s"), func("p", "tell b"),
                             func("q", "tell b"), func("s"), func("more", *["call tells"] * 8), func("tells", *["tell d"] * 16))
        for many, error in [(1, None), (2, LIMIT)]:
            patch = Patch(program, "m.s", rows(*["call more"] * many))
            image = Image(list(foldings(program))[0])
            self.assertEqual(image.folding.addresses, (("m.p", "m.q"),))
            state = at(image, ((0,), 2))
            self.assertEqual([error_of(unsure, program, image, patch), error_of(sure_paper, program, image, patch),
                              error_of(resume, program, image, patch, state), error_of(replaceable, program, patch)], [error] * 4)
            self.assertIsNone(error_of(resume, program, image, patch, begin(image)))
            self.assertIsNone(error_of(unsure, program, Image(plain(program)), patch))

    def test_nothing_is_looked_at_behind_what_is_unsure(self):
        # The first state of the image is unsure at once; those behind it would be beyond the limit.
        program = program_of(func("main", "choose 3", "addr a p", "go 4", "addr a q", "callr a", "callr a", "call s"),
                             func("p", "tell b"), func("q", "tell b"), func("s"), func("more", *["call tells"] * 16),
                             func("tells", *["tell d"] * 12))
        patch = Patch(program, "m.p", "tell c\ncall more")
        image = Image(list(foldings(program))[0])
        self.assertEqual(unsure(program, image, patch), (((0,), 2), ((1,), 2), ((), 1)))
        self.assertEqual(replaceable(program, patch).addresses, (("m.p",), ("m.q",)))

    def test_at_random(self):
        sure, seen = 0, 0
        for program in [*programs_at_random(40, start=5000), *branching_programs(40, start=100)]:
            for folding in list(foldings(program))[:3]:
                image = Image(folding)
                if notice(program, image) is not None:
                    continue
                for patch in some_patches(program):
                    found = unsure(program, image, patch)
                    self.assertEqual(found, slow_unsure(program, image, patch))
                    paper = sure_paper(program, image, patch)
                    self.assertEqual(paper is None, found is not None)
                    if paper is not None:
                        self.assertIs(check_sure(program, image, patch, paper), True)
                    sure, seen = sure + (found is None), seen + 1
                    if found is not None:
                        self.shown(program, image, patch, found)
        self.assertGreater(sure, 100)
        self.assertGreater(seen - sure, 15)

    def shown(self, program, image, patch, found):
        """What unsure tells is so: the image is in one state, and the program's two states go on unlike."""
        one, other, later = found
        self.assertEqual(at(image, one), at(image, other))
        carried = [carry(patch, at(program, moment)) for moment in (one, other)]
        self.assertEqual(go_alike(patch, *carried), later)
        fitting = fits(program, image, at(image, one))
        self.assertEqual((fitting[0], at(program, other) in fitting), (at(program, one), True))
        self.assertEqual(error_of(resume, program, image, patch, at(image, one)), (NotSure, *found))


class Replaceable(unittest.TestCase):

    def test_alone_or_not(self):
        patch = Patch(PAIR, "m.p", "set b 2\ntell b")
        found = replaceable(PAIR, patch)
        self.assertEqual((found.addresses, found.bodies), ((("m.p",), ("m.q",)), (("m.main",), ("m.p", "m.q"))))
        # Where frames of both are in one body, the function has to be alone.
        program = program_of(func("main", "choose 4", "call p", "ret", "ret", "call q"), func("p", "call x", "tell b"),
                             func("q", "call x", "tell b"), func("x", "tell a"))
        patch = Patch(program, "m.p", "tell b")
        self.assertEqual(replaceable(program, patch).bodies, smallest(program).bodies)
        program = program_of(func("main", "choose 3", "addr a p", "go 4", "addr a q", "call r"), func("p", "tell b"),
                             func("q", "tell b"), func("r", "tell c", "callr a"))
        patch = Patch(program, "m.p", "tell b\ntell b")
        self.assertEqual(replaceable(program, patch).addresses, (("m.p",), ("m.q",)))

    def test_it_must_be_alone(self):
        # Behind the first event nobody knows whether u or v goes on, and what it calls next, unless p is alone.
        program = program_of(func("main", "choose 3", "addr a u", "go 4", "addr a v", "callr a"), func("u", "set a 0", "call p", "call p"),
                             func("v", "set a 0", "call q", "call q"), func("p", "tell b"), func("q", "tell b"))
        apart = (("m.u",), ("m.v",))
        greatest = Folding(program, apart, Likeness(program, apart).bodies)
        self.assertEqual(greatest.bodies, (("m.main",), ("m.p", "m.q"), ("m.u", "m.v")))
        patch = Patch(program, "m.p", "tell b\ntell b")
        self.assertEqual(unsure(program, Image(greatest), patch), (((0,), 2), ((1,), 2), ((), 1)))
        found = replaceable(program, patch)
        self.assertEqual((found.addresses, found.bodies), (apart, plain(program).bodies))
        self.assertEqual(found, slow_replaceable(program, patch))
        self.assertIsNone(unsure(program, Image(found), patch))
        # With rows that nobody tells from the old ones it need not be.
        self.assertEqual(replaceable(program, Patch(program, "m.p", "set c 1\ntell b")), smallest(program))

    def test_frames_stay_in_the_old_rows(self):
        program = program_of(func("main", "choose 3", "call p", "ret", "call q"), func("p", "tell b", "call s"),
                             func("q", "tell b", "call t"), func("s", "tell c"), func("t", "tell c"))
        patch = Patch(program, "m.s", "tell c\ntell c")
        self.assertEqual(replaceable(program, patch), smallest(program))
        program = program_of(func("main", "choose 4", "set a 1", "addr d p", "go 5", "addr d q", "callr d", "tell c"),
                             func("p", "tell b", "call p2"), func("q", "tell b", "call p2"), func("p2", "callr d"))
        patch = Patch(program, "m.q", "tell c\ntell c")
        self.assertEqual(replaceable(program, patch), slow_replaceable(program, patch))

    def test_the_smallest_where_it_is_sure(self):
        for text in ["set b 1\ntell b", "set b 1\nset c 1\ntell b"]:
            found = replaceable(PAIR, Patch(PAIR, "m.p", text))
            self.assertEqual((found.addresses, found.bodies), ((("m.p", "m.q"),), (("m.main",), ("m.p", "m.q"))))

    def test_equal_sizes(self):
        # No run uses p or q: all have one size, and the earlier addresses, then the greater bodies, win.
        program = program_of(func("main", "addr a p", "addr b q"), func("p"), func("q"))
        found = replaceable(program, Patch(program, "m.p", "tell a"))
        self.assertEqual((found.addresses, found.bodies), ((("m.p", "m.q"),), (("m.main",), ("m.p", "m.q"))))

    def test_noticed_images_do_not_count(self):
        program = two_joinings()
        self.assertEqual(replaceable(program, Patch(program, "m.f", "")).addresses, (("m.f", "m.g"), ("m.h", "m.i")))
        program = program_of(func("main", "addr a f", "addr b g", "same a b 4", "tell c"), func("f"), func("g"))
        self.assertEqual(replaceable(program, Patch(program, "m.f", "")).addresses, (("m.f",), ("m.g",)))

    def test_at_random(self):
        alone = 0
        for program in [*programs_at_random(10, 5, start=6000), *branching_programs(45, 4, start=300)]:
            for patch in some_patches(program)[:4]:
                found = replaceable(program, patch)
                self.assertEqual(found, slow_replaceable(program, patch))
                image = Image(found)
                self.assertIs(check_sure(program, image, patch, sure_paper(program, image, patch)), True)
                alone += found != smallest(program)
        self.assertGreater(alone, 2)

    def test_noticed_images_are_not_gone_through(self):
        # Where p and q are one, two states go on alike beyond the limit; but that image is noticed, and does not count.
        program = program_of(func("main", "choose 3", "addr a p", "go 4", "addr a q", "callr a", "addr b q", "same a b 8", "tell c", "call s"),
                             func("p", "tell b"), func("q", "tell b"), func("s"), func("more", *["call tells"] * 8),
                             func("tells", *["tell d"] * 16))
        patch = Patch(program, "m.s", "call more\ncall more")
        self.assertEqual(notice(program, Image(list(foldings(program))[0])), ((0,), 2))
        carried = [carry(patch, at(program, ((choice,), 2))) for choice in (0, 1)]
        self.assertEqual(error_of(go_alike, patch, *carried), LIMIT)
        self.assertEqual(replaceable(program, patch).addresses, (("m.p",), ("m.q",)))

    def test_limits_behind_the_first_unsure_state(self):
        # Of states that are looked at behind one that is not sure, none is beyond the limit.
        for program in branching_programs(10, start=700):
            for patch in some_patches(program):
                self.assertIsNone(error_of(replaceable, program, patch))


class CheckSure(unittest.TestCase):

    PATCH = Patch(PAIR, "m.p", "set b 1\nset c 1\ntell b")

    def check(self, value, patch=None):
        return check_sure(PAIR, FOLDED, patch or self.PATCH, value)

    def test_papers_of_another_author(self):
        pairs, alike = sure_paper(PAIR, FOLDED, self.PATCH)
        for value in [(pairs, alike[::-1]), (pairs + pairs, alike + alike),
                      (pairs, [*alike, *[(other, one) for one, other in alike]]),
                      (pairs, [*alike, (begin(PAIR), begin(PAIR)), *[(state, state) for state in states(self.PATCH)]])]:
            self.assertIs(self.check(value), True)
        # The other one may stand first: then its states are compared with those of this one.
        swapped = [(one, there) for one, there in pairs[::-1]]
        first = [(carry(self.PATCH, one), carry(self.PATCH, other)) for other, there in pairs for one, its in pairs
                 if there == its and one != other and pairs.index((one, its)) > pairs.index((other, there))]
        closed = [pair for start in first for pair in together(self.PATCH, self.PATCH, *start)]
        self.assertIs(self.check((swapped, closed)), True)
        self.assertIs(self.check((swapped, alike)), False)

    def test_one_left_out(self):
        pairs, alike = sure_paper(PAIR, FOLDED, self.PATCH)
        for place in range(len(pairs)):
            self.assertIs(self.check((pairs[:place] + pairs[place + 1:], alike)), False)
        for place in range(len(alike)):
            self.assertIs(self.check((pairs, alike[:place] + alike[place + 1:])), False)

    def test_wrong_in_one_place(self):
        pairs, alike = sure_paper(PAIR, FOLDED, self.PATCH)
        for value in [*ANY_VALUES, (begin(PAIR), begin(PAIR), 0), [begin(PAIR)] * 2, (begin(PAIR), None),
                      (begin(PAIR), ((("m.p.old", 3),), ZEROS)), (begin(PAIR), ((("m.p", 4),), ZEROS))]:
            self.assertIs(self.check((pairs, [*alike, value])), False)
            self.assertIs(self.check(([*pairs, value], alike)), False)
        for value in ANY_VALUES:
            self.assertIs(self.check(value), False)
            self.assertIs(self.check((pairs, value)), False)
            self.assertIs(self.check((value, alike)), False)
        self.assertIs(self.check([pairs, alike]), False)
        self.assertIs(self.check((pairs, tuple(alike))), False)
        self.assertIs(self.check((pairs, alike, alike)), False)

    def test_an_unsure_patch_has_none(self):
        patch = Patch(PAIR, "m.p", "set b 2\ntell b")
        pairs, alike = sure_paper(PAIR, FOLDED, self.PATCH)
        first = [(carry(patch, at(PAIR, ((0,), number))), carry(patch, at(PAIR, ((1,), number)))) for number in (2, 3)]
        for value in [(pairs, alike), (pairs, []), (pairs, first)]:
            self.assertIs(self.check(value, patch), False)

    def test_states_that_are_not_reached(self):
        # More pairs of the table ask for more pairs of the patched code.
        pairs, alike = sure_paper(PAIR, FOLDED, self.PATCH)
        more = [(((("m.p", 2),), ZEROS), ((("m.p", 2),), ZEROS)), (((("m.q", 2),), ZEROS), ((("m.p", 2),), ZEROS))]
        self.assertIs(check_table(PAIR, FOLDED, pairs + more), True)
        self.assertIs(self.check((pairs + more, alike)), False)
        asked = [(((("m.p.old", 2),), ZEROS), ((("m.q", 2),), ZEROS))]
        self.assertIs(self.check((pairs + more, alike + asked)), True)
        self.assertIs(self.check((pairs, alike + asked)), True)

    def test_the_example(self):
        main = "export main\nfunc main\nchoose 3\naddr a p\ngo 4\naddr a q\ncallr a\ncallr a\nend"
        program = Program({"m": main + "\nfunc p\nset b 1\ntell b\nend\nfunc q\nset b 1\ntell b\nend"})
        image = Image(Folding(program, (("m.p", "m.q"),), (("m.main",), ("m.p", "m.q"))))
        patch = Patch(program, "m.p", "set b 2\ntell b")
        self.assertEqual((unsure(program, image, patch), replaceable(program, patch).addresses),
                         ((((0,), 2), ((1,), 2), ((), 0)), (("m.p",), ("m.q",))))


class Exact(unittest.TestCase):

    def test_all_pairs_of_runs(self):
        """What unsure says is so over all runs that are short: records from the carried states are unlike or not."""
        for program in branching_programs(15, 4, start=40):
            image = Image(list(foldings(program))[0])
            if notice(program, image) is not None:
                continue
            for patch in some_patches(program)[:3]:
                apart = False
                pairs = list(slow_pairs(program, image))
                for (one, there), (other, its) in itertools.combinations(pairs, 2):
                    if there == its:
                        start = (slow_carry(patch, one), slow_carry(patch, other))
                        apart = apart or slow_notice(patch, patch, start) is not None
                self.assertEqual(unsure(program, image, patch) is not None, apart)


if __name__ == "__main__":
    unittest.main()
