"""Programs: what names mean, the errors in their order, and the methods."""

import unittest

from helpers import Odd, data, func, rows
from foldsame.errors import BadModule, BadName, FoldError, LimitExceeded, UnknownName
from foldsame.programs import Program

NO_NAMES = [None, True, False, 0, 1, 1.5, b"m", (), ("m",), ("m", "main"), frozenset(["m"]), "", "M", "1m", "m.main",
            "m ", "func", "data", "end", "export", "alias", "ret", "choose", "abcdefghi", "m_n", "\u00e9"]
UNHASHABLE = [[], ["m.main"], {}, {"m.main": 1}, {"m.main"}, [["m"]]]
MAIN = "export main\nfunc main\nend"


def error_of(modules, *entry):
    """The error of a program: its class, and what it keeps."""
    try:
        Program(modules, *entry)
    except FoldError as error:
        return (type(error), *[getattr(error, name) for name in ("module", "row", "value", "limit")
                               if hasattr(error, name)])
    return None


def functions(many, start=0):
    """The text of so many empty functions."""
    return rows(*[func(f"f{k}") for k in range(start, start + many)])


class Meanings(unittest.TestCase):

    def test_example_of_the_document(self):
        program = Program({'m': 'export main\nfunc main\ncall f\naddr a g\nend\nalias f g',
                           'n': 'export g\nfunc g\nend'})
        self.assertEqual((program.pieces, program.taken, program.rows_of('m.main')),
                         (('m.main', 'n.g'), ('n.g',), (('call', 'n.g'), ('addr', 'a', 'n.g'))))

    def test_smallest_program(self):
        program = Program({"m": MAIN})
        self.assertEqual((program.pieces, program.taken, program.entry, len(program)),
                         (("m.main",), (), "m.main", 1))
        self.assertEqual((program.kind_of("m.main"), program.rows_of("m.main")), ("func", ()))

    def test_by_parameter_name(self):
        program = Program(modules={"m": MAIN + "\nexport g\n" + func("g", "ret")}, entry="g")
        self.assertEqual(program.entry, "m.g")
        self.assertEqual(Program(entry="main", modules={"m": MAIN}).entry, "m.main")
        self.assertEqual(program.kind_of(name="m.g"), "func")
        self.assertEqual(program.rows_of(name="m.g"), (("ret",),))
        self.assertEqual(program.meaning(module="m", name="g"), "m.g")

    def test_order_of_full_names(self):
        program = Program({"n": functions(2), "m1": data("z") + "\n" + data("b"), "m": MAIN + "\n" + functions(2)})
        self.assertEqual(program.pieces, ("m.f0", "m.f1", "m.main", "m1.b", "m1.z", "n.f0", "n.f1"))

    def test_each_row_with_full_names(self):
        given = ["call f", "callr a", "ret", "addr b x", "set c 5", "move d a", "read a x 1", "readr b c 9",
                 "same a b 0", "choose 3", "tell d", "go 12"]
        program = Program({"m": rows("export main", func("main", *given)), "n": rows("export f x", func("f"),
                                                                                    data("x", "7", "f", "x", "0"))})
        self.assertEqual(program.rows_of("m.main"), (
            ("call", "n.f"), ("callr", "a"), ("ret",), ("addr", "b", "n.x"), ("set", "c", 5), ("move", "d", "a"),
            ("read", "a", "n.x", 1), ("readr", "b", "c", 9), ("same", "a", "b", 0), ("choose", 3), ("tell", "d"),
            ("go", 12)))
        self.assertEqual(program.rows_of("n.x"), (7, "n.f", "n.x", 0))
        self.assertEqual((program.kind_of("n.x"), program.kind_of("n.f")), ("data", "func"))

    def test_registers_as_names(self):
        program = Program({"m": rows("export main", func("main", "addr a a", "addr b b", "read c b 0", "call a"),
                                     func("a"), data("b", "a", "b"))})
        self.assertEqual(program.rows_of("m.main"),
                         (("addr", "a", "m.a"), ("addr", "b", "m.b"), ("read", "c", "m.b", 0), ("call", "m.a")))
        self.assertEqual(program.rows_of("m.b"), ("m.a", "m.b"))

    def test_own_names_come_first(self):
        program = Program({"a": rows("export f g", func("f"), func("g")),
                           "m": rows("export main", func("main", "call f", "call g"), func("f"), "alias g f")})
        self.assertEqual(program.rows_of("m.main"), (("call", "m.f"), ("call", "m.f")))

    def test_only_exported_names_are_seen(self):
        modules = {"m": rows("export main", func("main", "call f")), "n": func("f")}
        self.assertEqual(error_of(modules), (BadModule, "m", 2))
        modules["n"] = rows("export f", func("f"))
        self.assertEqual(Program(modules).rows_of("m.main"), (("call", "n.f"),))

    def test_aliases(self):
        program = Program({"m": rows("alias h g", "export main", func("main", "call h", "addr a g", "call f"),
                                     "alias g f", func("f"))})
        self.assertEqual(program.rows_of("m.main"), (("call", "m.f"), ("addr", "a", "m.f"), ("call", "m.f")))
        self.assertEqual(program.taken, ("m.f",))

    def test_an_alias_means_what_its_other_means_there(self):
        program = Program({"m": rows("export main", func("main", "call k", "call g"), func("g")),
                           "n": rows("export k", "alias k g", func("g", "ret"))})
        self.assertEqual(program.rows_of("m.main"), (("call", "n.g"), ("call", "m.g")))

    def test_exports_of_aliases_of_exports(self):
        program = Program({"m": rows("export main", func("main", "call one", "read a two 0")),
                           "n": rows("export one two", "alias one three", "alias two box"),
                           "p": rows("alias three four", "export three", "alias four five"),
                           "q": rows("export five box", func("five"), data("box", "1"))})
        self.assertEqual(program.rows_of("m.main"), (("call", "q.five"), ("read", "a", "q.box", 0)))
        self.assertEqual(program.meaning("p", "four"), "q.five")
        self.assertEqual(program.pieces, ("m.main", "q.box", "q.five"))

    def test_an_alias_to_an_exported_name_of_its_own(self):
        program = Program({"m": rows("export main", func("main", "call g"), "alias g f"),
                           "n": rows("export f", func("f"))})
        self.assertEqual(program.rows_of("m.main"), (("call", "n.f"),))

    def test_a_name_may_pass_through_one_name_in_two_modules(self):
        program = Program({"m": rows("export main", func("main", "call f"), "alias f g"),
                           "n": rows("export g", "alias g f", func("f"))})
        self.assertEqual(program.rows_of("m.main"), (("call", "n.f"),))

    def test_long_chains_of_aliases(self):
        chain = [f"alias a{k} a{k + 1}" for k in range(600)]
        program = Program({"m": rows(*chain, "export main", func("main", "call a0"), func("a600"))})
        self.assertEqual(program.rows_of("m.main"), (("call", "m.a600"),))

    def test_an_entry_by_an_alias(self):
        program = Program({"m": rows("export go1", "alias go1 begin"), "n": rows("export begin", func("begin"))}, "go1")
        self.assertEqual(program.entry, "n.begin")

    def test_an_entry_in_any_module(self):
        program = Program({"m": func("main", "ret"), "n": rows(func("main"), "export main")})
        self.assertEqual(program.entry, "n.main")

    def test_taken(self):
        program = Program({"m": rows("export main", func("main", "addr a z", "addr b z", "call e", "read a y 0"),
                                     data("x", "7", "k", "y"), "alias k f", func("f"), func("e"), data("y", "1"),
                                     data("z"))})
        self.assertEqual(program.taken, ("m.f", "m.y", "m.z"))

    def test_calls_and_reads_take_nothing(self):
        program = Program({"m": rows("export main", func("main", "call main", "read a x 0"), data("x", "1"))})
        self.assertEqual(program.taken, ())

    def test_data_may_take_functions_and_itself(self):
        program = Program({"m": rows("export main", func("main"), data("x", "main", "x"))})
        self.assertEqual(program.taken, ("m.main", "m.x"))

    def test_what_is_returned_is_of_tuples(self):
        program = Program({"m": rows("export main", func("main", "addr a x"), data("x", "1", "main"))})
        for value in [program.pieces, program.taken, program.rows_of("m.main"), program.rows_of("m.main")[0],
                      program.rows_of("m.x")]:
            self.assertIs(type(value), tuple)


class Keys(unittest.TestCase):

    def test_keys_that_are_no_names(self):
        for key in NO_NAMES:
            kind, value = error_of({key: MAIN})
            self.assertIs(kind, BadName)
            self.assertIs(value, key)

    def test_the_first_wrong_key(self):
        self.assertEqual(error_of({"m": MAIN, "z z": "", "A": ""}), (BadName, "z z"))
        self.assertEqual(error_of({"A": "", "z z": "", "m": MAIN}), (BadName, "A"))
        self.assertEqual(error_of({5: "", None: "", "m": MAIN}), (BadName, 5))

    def test_ahead_of_all_else(self):
        self.assertEqual(error_of({"a": "wrong", "b": None, "m": "export f", "n n": ""}, "E"), (BadName, "n n"))
        self.assertEqual(error_of({"m": rows(MAIN, functions(12)), "N": None}), (BadName, "N"))

    def test_a_key_like_the_entry_is_no_trouble(self):
        self.assertEqual(Program({"main": MAIN}).entry, "main.main")
        self.assertEqual(Program({"a": MAIN, "b": "", "abcdefgh": ""}).pieces, ("a.main",))


class Texts(unittest.TestCase):

    def test_the_row_of_a_refused_text(self):
        self.assertEqual(error_of({"m": MAIN, "n": "func f\nwrong\nend"}), (BadModule, "n", 1))
        self.assertEqual(error_of({"m": "\n" + MAIN}), (BadModule, "m", 0))
        self.assertEqual(error_of({"m": MAIN + "\n"}), (BadModule, "m", 3))
        self.assertEqual(error_of({"m": MAIN + "\nfunc f\ngo 2\nend"}), (BadModule, "m", 4))
        self.assertEqual(error_of({"m": MAIN + "\nfunc f"}), (BadModule, "m", 4))

    def test_values_that_are_no_texts(self):
        for value in [None, True, 0, 5, b"", [], ["func main"], (), {}, object()]:
            self.assertEqual(error_of({"m": MAIN, "n": value}), (BadModule, "n", None))

    def test_the_first_by_name(self):
        self.assertEqual(error_of({"n": "wrong", "m": MAIN + "\nwrong", "p": None}), (BadModule, "m", 3))
        self.assertEqual(error_of({"p": "wrong", "n": None, "m": MAIN}), (BadModule, "n", None))
        self.assertEqual(error_of({"b": "wrong", "a1": "\n", "a": MAIN}), (BadModule, "a1", 0))

    def test_ahead_of_rows_that_break_a_rule(self):
        self.assertEqual(error_of({"a": "export none", "m": MAIN, "z": "wrong"}), (BadModule, "z", 0))
        self.assertEqual(error_of({"m": "export main\nfunc main\ncall none\nend\nwrong"}), (BadModule, "m", 4))

    def test_ahead_of_entry_and_limits(self):
        self.assertEqual(error_of({"m": "wrong"}, "none"), (BadModule, "m", 0))
        self.assertEqual(error_of({"m": functions(12), "n": functions(5), "p": "wrong"}), (BadModule, "p", 0))


class Rules(unittest.TestCase):

    def check(self, row, *modules, entry="main"):
        """That the first module given breaks a rule in this row; the others stand behind it."""
        named = {f"m{k}": text for k, text in enumerate(modules)}
        self.assertEqual(error_of(named, entry), (BadModule, "m0", row), modules[0])

    def test_names_that_mean_nothing(self):
        for row in ["call none", "addr a none", "read a none 0"]:
            self.check(2, rows("export main", func("main", row)))
            self.check(4, rows("export main", func("main", "ret", "call main", row, "call gone")))
        self.check(4, rows(MAIN, data("x", "none")))
        self.check(7, rows(MAIN, data("x", "1", "x", "main", "none")))
        self.check(3, rows(MAIN, "alias k none"))
        self.check(0, rows("alias k none", MAIN))
        self.check(1, rows("alias k main", "alias g none", MAIN))

    def test_an_alias_of_an_alias_that_means_nothing(self):
        self.check(0, rows("alias k g", "alias g none", MAIN))

    def test_rings_of_aliases(self):
        self.check(3, rows(MAIN, "alias k k"))
        self.check(0, rows("alias k g", "alias g k", MAIN))
        self.check(0, rows("alias p k", "alias k g", "alias g k", MAIN))
        self.check(1, rows("alias q main", "alias p k", "alias k g", "alias g h", "alias h k", MAIN))
        self.check(2, rows("export main", "func main", "call k", "end", "alias k g", "alias g k"))

    def test_rings_of_aliases_over_modules(self):
        self.check(1, rows("export f", "alias f g", MAIN), rows("export g", "alias g f"))
        self.check(5, rows(MAIN, func("q"), "alias k g"), rows("export g h", "alias g h", "alias h p"),
                   rows("export p", "alias p g"))
        self.check(2, rows("export main", func("main", "call g")), rows("export g", "alias g f"),
                   rows("export f", "alias f g"))

    def test_a_ring_ends_nothing_beside_it(self):
        self.assertEqual(error_of({"m": rows(MAIN, func("f"), "alias g f", "alias k g"), "n": "alias g g"}),
                         (BadModule, "n", 0))

    def test_call_means_a_function(self):
        self.check(2, rows("export main", func("main", "call x"), data("x", "1")))
        self.check(2, rows("export main", func("main", "call k"), data("x"), "alias k x"))
        self.check(2, rows("export main", func("main", "call x")), rows("export x", data("x", "main")))
        self.assertEqual(Program({"m": rows("export main", func("main", "call main"))}).rows_of("m.main"),
                         (("call", "m.main"),))

    def test_read_means_data(self):
        self.check(2, rows("export main", func("main", "read a main 0")))
        self.check(2, rows("export main", func("main", "read a f 0"), func("f", "ret", "ret")))
        self.check(2, rows("export main", func("main", "read a k 0"), func("f", "ret", "ret"), "alias k f"))

    def test_read_means_data_with_more_words(self):
        for many in range(4):
            words = ["5"] * many
            for at in range(6):
                text = rows("export main", func("main", f"read a x {at}"), data("x", *words))
                if at < many:
                    self.assertEqual(Program({"m": text}).rows_of("m.main"), (("read", "a", "m.x", at),))
                else:
                    self.check(2, text)
        full = data("x", *["0"] * 16)
        self.assertIsNone(error_of({"m": rows("export main", func("main", "read a x 15"), full)}))
        self.check(2, rows("export main", func("main", "read a x 16"), full))
        self.check(2, rows("export main", func("main", "read a x 99"), full))

    def test_addr_and_words_mean_any_piece(self):
        program = Program({"m": rows("export main", func("main", "addr a x", "addr b main"), data("x", "x", "main"),
                                     data("y"), func("f", "addr c y"))})
        self.assertEqual(program.taken, ("m.main", "m.x", "m.y"))

    def test_words_that_name_nothing_are_free(self):
        text = rows("export main", func("main", "readr a b 99", "callr d", "set a 99", "same a b 6", "tell c", "ret"))
        self.assertIsNone(error_of({"m": text}))

    def test_exported_names_are_of_the_module(self):
        self.check(0, rows("export none", MAIN))
        self.check(3, rows(MAIN, "export none"))
        self.check(3, rows(MAIN, "export f none", func("f")))
        self.check(0, rows("export g", MAIN, "alias k g"), rows("export g", func("g")))
        self.assertIsNone(error_of({"m": rows("export main k x", func("main"), "alias k main", data("x"))}))

    def test_no_other_module_ahead_exports_it(self):
        self.assertEqual(error_of({"m": rows(MAIN, "export f", func("f")), "n": rows(func("f"), "export f")}),
                         (BadModule, "n", 2))
        self.assertEqual(error_of({"n": rows(MAIN, "export f", func("f")), "m": rows("export f", func("f"))}),
                         (BadModule, "n", 3))
        self.assertEqual(error_of({"a": rows("export f", "alias f g", func("g")), "b": rows("export g", func("g")),
                                   "m": rows(MAIN, func("f"), func("g"), "alias k f", "export k f")}),
                         (BadModule, "m", 8))
        self.assertEqual(error_of({"a": MAIN, "b": MAIN}), (BadModule, "b", 0))

    def test_of_several_the_first_module_by_name(self):
        main = rows("export main", func("main", "call f"))
        function = rows("export f", func("f"))
        box = rows("export f", data("f"))
        self.assertEqual(error_of({"a": main, "m": function, "n": box}), (BadModule, "n", 0))
        self.assertEqual(error_of({"n": box, "m": function, "a": main}), (BadModule, "n", 0))
        self.assertEqual(error_of({"a": main, "m": box, "n": function}), (BadModule, "a", 2))
        self.assertEqual(error_of({"n": function, "m": box, "a": main}), (BadModule, "a", 2))

    def test_a_module_that_exports_what_it_has_not(self):
        self.assertEqual(error_of({"a": rows("export main", func("main", "call f")), "b": "export f"}),
                         (BadModule, "a", 2))
        self.assertEqual(error_of({"b": rows("export main", func("main", "call f")), "a": "export f"}),
                         (BadModule, "a", 0))
        self.assertEqual(error_of({"a": rows("export main f", func("main", "call f"))}), (BadModule, "a", 0))

    def test_by_modules_then_by_rows(self):
        modules = {"c": rows("alias k none", "export none"), "b": rows(MAIN, "export none", func("f", "call none")),
                   "a": rows(func("f", "ret", "call gone"), "alias k k")}
        self.assertEqual(error_of(modules), (BadModule, "a", 2))
        modules["a"] = ""
        self.assertEqual(error_of(modules), (BadModule, "b", 3))
        modules["b"] = rows(MAIN, func("f", "call none"), "export none")
        self.assertEqual(error_of(modules), (BadModule, "b", 4))
        modules["b"] = MAIN
        self.assertEqual(error_of(modules), (BadModule, "c", 0))
        modules["c"] = rows("export none", "alias k none")
        self.assertEqual(error_of(modules), (BadModule, "c", 0))

    def test_rows_of_each_kind_in_their_order(self):
        wrong = ["export none", "alias k none", func("f", "call none"), func("g", "call x"), func("h", "read a x 0"),
                 data("y", "none"), "alias p p"]
        base = [MAIN, data("x")]
        for start in range(len(wrong)):
            given = base + wrong[start:] + wrong[:start]
            first = 5 if wrong[start].startswith(("export", "alias")) else 6
            self.check(first, rows(*given))

    def test_each_row_counts_in_its_own_text(self):
        text = rows("alias k main", "alias g k", func("f", "ret"), data("x", "1", "y"))
        self.assertEqual(error_of({"m": MAIN, "n": text}), (BadModule, "n", 7))
        self.assertEqual(error_of({"n": MAIN, "m": text}), (BadModule, "m", 7))


class Entries(unittest.TestCase):

    def test_values_that_are_no_names(self):
        for value in NO_NAMES + UNHASHABLE + [Odd(), object()]:
            with self.assertRaises(BadName) as told:
                Program({"m": MAIN}, value)
            self.assertIs(told.exception.value, value)

    def test_names_that_are_not_exported(self):
        modules = {"m": rows(MAIN, func("f"), "alias k f")}
        for name in ["f", "k", "none", "m"]:
            self.assertEqual(error_of(modules, name), (BadName, name))
        self.assertEqual(error_of({"m": func("main")}), (BadName, "main"))
        self.assertEqual(error_of({}), (BadName, "main"))
        self.assertEqual(error_of({"m": ""}), (BadName, "main"))

    def test_data_is_no_entry(self):
        modules = {"m": rows(MAIN, "export x k j", data("x", "1"), "alias k x", "alias j main")}
        self.assertEqual(error_of(modules, "x"), (BadName, "x"))
        self.assertEqual(error_of(modules, "k"), (BadName, "k"))
        self.assertEqual(Program(modules, "j").entry, "m.main")
        self.assertEqual(error_of({"m": rows("export main", data("main"))}), (BadName, "main"))

    def test_a_full_name_is_no_entry(self):
        self.assertEqual(error_of({"m": MAIN}, "m.main"), (BadName, "m.main"))

    def test_behind_the_rules(self):
        self.assertEqual(error_of({"m": rows(MAIN, "export none")}, "gone"), (BadModule, "m", 3))
        self.assertEqual(error_of({"m": "alias k none"}, 5), (BadModule, "m", 0))

    def test_ahead_of_the_limits(self):
        modules = {"m": functions(12), "n": rows(MAIN, data("x", *[f"g{k}" for k in range(7)])),
                   "p": rows("export " + " ".join([f"g{k}" for k in range(7)]),
                             *[func(f"g{k}") for k in range(7)])}
        self.assertEqual(error_of(modules, "none"), (BadName, "none"))
        self.assertEqual(error_of(modules, None), (BadName, None))
        self.assertEqual(error_of(modules), (LimitExceeded, 12))


class Limits(unittest.TestCase):

    def taking(self, many):
        """A text that takes the addresses of so many pieces, each of them twice."""
        words = [f"f{k}" for k in range(many)]
        return rows(MAIN, functions(many), data("x", *words, *words))

    def test_twelve_pieces(self):
        self.assertEqual(len(Program({"m": rows(MAIN, functions(11))})), 12)
        self.assertEqual(len(Program({"m": rows(MAIN, functions(5)), "n": functions(6), "p": "", "q": ""})), 12)

    def test_thirteen_pieces(self):
        self.assertEqual(error_of({"m": rows(MAIN, functions(5)), "n": functions(7)}), (LimitExceeded, 12))
        self.assertEqual(error_of({"m": rows(MAIN, functions(11)), "n": data("x")}), (LimitExceeded, 12))
        self.assertEqual(error_of({"m": rows(MAIN, functions(11)), "n": functions(12), "p": functions(12)}),
                         (LimitExceeded, 12))

    def test_aliases_are_no_pieces(self):
        aliases = rows(*[f"alias k{k} f{k}" for k in range(11)])
        self.assertEqual(len(Program({"m": rows(MAIN, functions(11), aliases)})), 12)

    def test_six_taken(self):
        program = Program({"m": self.taking(6)})
        self.assertEqual(program.taken, tuple([f"m.f{k}" for k in range(6)]))
        rows_of_main = [f"addr a f{k}" for k in range(3)]
        program = Program({"m": rows("export main", func("main", *rows_of_main), functions(6), "alias k f0",
                                     data("x", "f3", "f4", "f5", "k", "f1"))})
        self.assertEqual(len(program.taken), 6)

    def test_seven_taken(self):
        self.assertEqual(error_of({"m": self.taking(7)}), (LimitExceeded, 6))
        rows_of_main = [f"addr a f{k}" for k in range(7)]
        self.assertEqual(error_of({"m": rows("export main", func("main", *rows_of_main)),
                                   "n": rows("export f0 f1 f2 f3 f4 f5 f6", functions(7))}), (LimitExceeded, 6))

    def test_pieces_come_ahead_of_taken(self):
        self.assertEqual(error_of({"m": self.taking(7), "n": functions(3)}), (LimitExceeded, 6))
        self.assertEqual(error_of({"m": self.taking(7), "n": functions(4)}), (LimitExceeded, 12))


class Methods(unittest.TestCase):

    def setUp(self):
        self.program = Program({
            "m": rows("export main k", func("main", "call f"), func("f"), "alias k f", "alias j g", data("x", "5")),
            "n": rows("export g h", func("g", "ret"), "alias h x", data("x", "6"), "alias i k", func("p"))})

    def test_kind_and_rows(self):
        wanted = {"m.main": ("func", (("call", "m.f"),)), "m.f": ("func", ()), "m.x": ("data", (5,)),
                  "n.g": ("func", (("ret",),)), "n.x": ("data", (6,)), "n.p": ("func", ())}
        self.assertEqual(self.program.pieces, tuple(sorted(wanted)))
        for name in wanted:
            self.assertEqual((self.program.kind_of(name), self.program.rows_of(name)), wanted[name])

    def test_unknown_names(self):
        for value in NO_NAMES[:12] + UNHASHABLE + ["main", "f", "m.k", "m.j", "m.g", "n.h", "m.", ".f", "m.f ",
                                                   "m.F", "m.none", "p.f", "m..f", "m.main\n", object(), Odd(), b"m.f"]:
            for call in (self.program.kind_of, self.program.rows_of):
                with self.assertRaises(UnknownName) as told:
                    call(value)
                self.assertIs(told.exception.value, value)
            self.assertIs(value in self.program, False)
            self.assertIs(value not in self.program, True)

    def test_full_names_are_in_it(self):
        for name in ["m.main", "m.f", "m.x", "n.g", "n.x", "n.p"]:
            self.assertIs(name in self.program, True)
            self.assertIs(name not in self.program, False)

    def test_length(self):
        self.assertEqual(len(self.program), 6)
        self.assertEqual(len(Program({"m": MAIN, "n": ""})), 1)

    def test_meaning(self):
        wanted = {("m", "main"): "m.main", ("m", "f"): "m.f", ("m", "k"): "m.f", ("m", "j"): "n.g", ("m", "x"): "m.x",
                  ("m", "g"): "n.g", ("m", "h"): "n.x", ("m", "p"): None, ("m", "i"): None, ("m", "none"): None,
                  ("n", "main"): "m.main", ("n", "f"): None, ("n", "k"): "m.f", ("n", "j"): None, ("n", "x"): "n.x",
                  ("n", "g"): "n.g", ("n", "h"): "n.x", ("n", "i"): "m.f", ("n", "p"): "n.p", ("p", "main"): None,
                  ("m.main", "f"): None, ("", "main"): None, ("m", ""): None, ("m", "m.f"): None, ("m", "func"): None}
        for module, name in wanted:
            self.assertEqual(self.program.meaning(module, name), wanted[(module, name)], (module, name))

    def test_meaning_in_a_module_without_pieces(self):
        program = Program({"m": MAIN, "n": ""})
        self.assertEqual(program.meaning("n", "main"), "m.main")
        self.assertIsNone(program.meaning("p", "main"))

    def test_meaning_of_any_values(self):
        for value in NO_NAMES + UNHASHABLE + [object(), Odd()]:
            self.assertIsNone(self.program.meaning(value, "main"))
            self.assertIsNone(self.program.meaning("m", value))
            self.assertIsNone(self.program.meaning(value, value))

    def test_homes_of_addresses(self):
        program = Program({"m": rows("export main", func("main", "addr a f"), func("f"))})
        self.assertEqual(program.home_of("m.f"), "m.f")
        for value in NO_NAMES + UNHASHABLE + ["m.main", Odd()]:
            with self.assertRaises(UnknownName) as told:
                program.home_of(value)
            self.assertIs(told.exception.value, value)

    def test_methods_stand_in_the_class(self):
        for name in ["kind_of", "rows_of", "meaning", "__contains__", "__len__", "__eq__"]:
            self.assertIn(name, Program.__dict__)
        self.assertEqual(Program.__module__, "foldsame.programs")


class Equality(unittest.TestCase):

    BASE = rows("export main f", func("main", "call f", "addr a x"), func("f", "ret"), data("x", "5"))

    def check_alike(self, one, other):
        self.assertTrue(one == other)
        self.assertFalse(one != other)

    def check_unlike(self, one, other):
        self.assertFalse(one == other)
        self.assertTrue(one != other)

    def test_equal_programs(self):
        base = Program({"m": self.BASE})
        same = [
            self.BASE,
            rows(data("x", "5"), func("f", "ret"), "export main", func("main", "call f", "addr a x")),
            rows("alias k f", "export main", func("main", "call k", "addr a j"), func("f", "ret"), data("x", "5"),
                 "alias j x"),
        ]
        for text in same:
            self.check_alike(base, Program({"m": text}))
        self.check_alike(base, Program({"m": self.BASE, "n": "", "p": "alias q main"}))
        self.check_alike(base, Program({"m": self.BASE + "\nexport e\nalias e main"}, "e"))

    def test_unlike_programs(self):
        base = Program({"m": self.BASE})
        self.check_unlike(base, Program({"m": self.BASE}, "f"))
        self.check_unlike(base, Program({"n": self.BASE}))
        for old, new in [("ret", "go 1"), ("\nret", ""), ("5", "6"), ("5", "main"), ("call f", "call main"),
                         ("addr a x", "addr b x"), ("addr a x", "addr a f")]:
            self.check_unlike(base, Program({"m": self.BASE.replace(old, new)}))
        self.check_unlike(base, Program({"m": self.BASE + "\n" + func("g")}))
        self.check_unlike(base, Program({"m": self.BASE, "n": func("g")}))

    def test_kinds_count(self):
        self.check_unlike(Program({"m": rows(MAIN, func("f"))}), Program({"m": rows(MAIN, data("f"))}))

    def test_names_count(self):
        self.check_unlike(Program({"m": rows(MAIN, func("f"))}), Program({"m": rows(MAIN, func("g"))}))

    def test_other_kinds(self):
        program = Program({"m": MAIN})
        for value in [None, 0, "m.main", (), [], {}, program.pieces, object(), Program]:
            self.check_unlike(program, value)
            self.check_unlike(value, program)


class Arguments(unittest.TestCase):

    def test_arguments_are_unchanged(self):
        modules = {"n": rows("export g", func("g")), "m": rows("export main", func("main", "call g"), "alias k g")}
        before = list(modules.items())
        Program(modules)
        self.assertEqual(list(modules.items()), before)
        wrong = {"n": rows("export g", func("g")), "m": MAIN, "a": "wrong", "b": None}
        before = list(wrong.items())
        error_of(wrong)
        self.assertEqual(list(wrong.items()), before)

    def test_arguments_are_not_kept(self):
        modules = {"n": rows("export g", func("g")), "m": rows("export main", func("main", "call g"), "alias k g")}
        program = Program(modules)
        again = Program(dict(modules))
        modules["m"] = MAIN
        modules["p"] = functions(2)
        del modules["n"]
        self.assertEqual(program.pieces, ("m.main", "n.g"))
        self.assertEqual(program.rows_of("m.main"), (("call", "n.g"),))
        self.assertEqual((program.meaning("m", "k"), program.meaning("m", "g")), ("n.g", "n.g"))
        self.assertEqual(program.meaning("n", "main"), "m.main")
        self.assertIsNone(program.meaning("p", "main"))
        self.assertIs("n.g" in program, True)
        self.assertTrue(program == again)
        modules.clear()
        self.assertEqual((program.meaning("m", "k"), len(program)), ("n.g", 2))

    def test_programs_of_one_dict_are_apart(self):
        modules = {"m": MAIN}
        one = Program(modules)
        modules["n"] = functions(1)
        other = Program(modules)
        self.assertEqual((one.pieces, other.pieces), (("m.main",), ("m.main", "n.f0")))

    def test_an_error_keeps_what_was_given(self):
        key = ("m", 1)
        with self.assertRaises(BadName) as told:
            Program({key: MAIN})
        self.assertIs(told.exception.value, key)
        entry = ["main"]
        with self.assertRaises(BadName) as told:
            Program({"m": MAIN}, entry)
        self.assertIs(told.exception.value, entry)
        self.assertEqual(entry, ["main"])


if __name__ == "__main__":
    unittest.main()
