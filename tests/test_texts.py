"""Names, and the texts of modules."""

import unittest

from foldsame.errors import BadText
from foldsame.texts import Module, Piece, is_name, parse_module

INSTRUCTIONS = ["call f", "callr a", "ret", "addr b g", "set c 5", "move d a", "read a x 0", "readr b c 99",
                "same a b 0", "choose 3", "tell d", "go 16"]
BARRED = ["func", "data", "end", "export", "alias"] + [row.split(" ")[0] for row in INSTRUCTIONS]
NO_TEXTS = [None, True, False, 0, 1, 1.5, b"a", b"", [], ["a"], (), ("a",), {}, {"a": 1}, {"a"}, object(), str]


def rows(*given):
    return "\n".join(given)


def func(*given, name="f"):
    return rows("func " + name, *given, "end")


def data(*given, name="x"):
    return rows("data " + name, *given, "end")


class IsName(unittest.TestCase):

    def test_names(self):
        for name in ["a", "z", "b", "c", "d", "m", "main", "f1", "a0", "z9", "abcdefgh", "a1234567", "x9y8z7"]:
            self.assertIs(is_name(name), True, name)

    def test_words_like_barred_ones_are_names(self):
        for name in ["funcs", "datas", "ends", "exports", "aliases", "calls", "call1", "cal", "rets", "re", "sett",
                     "at", "to", "r", "n", "i", "s", "all", "used", "image", "address", "name", "old", "put", "link"]:
            self.assertIs(is_name(name), True, name)

    def test_barred_words(self):
        self.assertEqual(len(BARRED), 17)
        for word in BARRED:
            self.assertIs(is_name(word), False, word)

    def test_lengths(self):
        for length, right in [(0, False), (1, True), (2, True), (7, True), (8, True), (9, False), (30, False)]:
            self.assertIs(is_name("a" * length), right, length)

    def test_a_digit_first(self):
        for word in ["0", "9", "1a", "0a1", "99", "1234567a"]:
            self.assertIs(is_name(word), False, word)

    def test_other_characters(self):
        for word in ["A", "Main", "mAin", "maiN", "Z1", "a_b", "_a", "a_", "a.b", "m.f", "a-b", "a+", "a b", " a",
                     "a ", " ", "\n", "a\n", "\na", "a\t", "a\r", "a\x00", "@", "a@", "a/", "a:", "a`", "a{", "'a'"]:
            self.assertIs(is_name(word), False, repr(word))

    def test_letters_and_digits_outside_of_ascii(self):
        for word in ["\u00e9", "a\u00e9", "\u00df", "\u0430", "a\u0430", "a\u00aa", "\u03b1", "a\u00b2", "a\u0663",
                     "a\uff11", "\uff41", "a\u0131", "\u017f", "\u212a"]:
            self.assertIs(is_name(word), False, repr(word))

    def test_values_that_are_no_texts(self):
        for value in NO_TEXTS:
            self.assertIs(is_name(value), False, repr(value))

    def test_by_parameter_name(self):
        self.assertIs(is_name(value="main"), True)
        self.assertIs(is_name(value=5), False)


class Parsing(unittest.TestCase):

    def test_example_of_the_document(self):
        module = parse_module('export main\nfunc main\nset a 5\ntell a\nend')
        told = (module.exports, module.pieces[0].rows, 'main' in module)
        self.assertEqual(told, (('main',), (('set', 'a', 5), ('tell', 'a')), True))

    def test_empty_text(self):
        module = parse_module("")
        self.assertEqual((module.pieces, module.exports, module.aliases), ((), (), ()))

    def test_by_parameter_name(self):
        self.assertEqual(parse_module(text="export a").exports, ("a",))

    def test_made_classes(self):
        module = parse_module(func("ret"))
        self.assertIsInstance(module, Module)
        self.assertIsInstance(module.pieces[0], Piece)

    def test_any_order(self):
        heads = ["export main k", "alias k main", func("ret", name="main"), "export b", data("main", "7", name="b"),
                 "alias p q", "export zz"]
        module = parse_module(rows(*heads))
        self.assertEqual(module.exports, ("main", "k", "b", "zz"))
        self.assertEqual(module.aliases, (("k", "main"), ("p", "q")))
        self.assertEqual([(piece.name, piece.kind, piece.rows) for piece in module.pieces],
                         [("main", "func", (("ret",),)), ("b", "data", ("main", 7))])
        module = parse_module(rows(*reversed(heads)))
        self.assertEqual(module.exports, ("zz", "b", "main", "k"))
        self.assertEqual(module.aliases, (("p", "q"), ("k", "main")))
        self.assertEqual([piece.name for piece in module.pieces], ["b", "main"])

    def test_each_instruction(self):
        tail = ["ret"] * 4
        module = parse_module(func(*INSTRUCTIONS, *tail))
        wanted = (("call", "f"), ("callr", "a"), ("ret",), ("addr", "b", "g"), ("set", "c", 5), ("move", "d", "a"),
                  ("read", "a", "x", 0), ("readr", "b", "c", 99), ("same", "a", "b", 0), ("choose", 3),
                  ("tell", "d"), ("go", 16), ("ret",), ("ret",), ("ret",), ("ret",))
        self.assertEqual(module.pieces[0].rows, wanted)
        self.assertEqual(len(module.pieces[0]), 16)

    def test_numbers_are_integers(self):
        module = parse_module(func("set a 1", "read a x 1", "go 1") + "\n" + data("1"))
        for value in [module.pieces[0].rows[0][2], module.pieces[0].rows[1][3], module.pieces[0].rows[2][1],
                      module.pieces[1].rows[0]]:
            self.assertIs(type(value), int)
            self.assertEqual(value, 1)

    def test_kinds_of_values(self):
        module = parse_module(rows("export a", "alias b c", func("ret"), data("0")))
        for value in [module.pieces, module.exports, module.aliases, module.aliases[0], module.pieces[0].rows,
                      module.pieces[0].rows[0], module.pieces[1].rows]:
            self.assertIs(type(value), tuple)

    def test_each_register(self):
        for name in "abcd":
            text = func(f"callr {name}", f"addr {name} {name}", f"set {name} 0", f"move {name} {name}",
                        f"read {name} {name} 0", f"readr {name} {name} 0", f"same {name} {name} 0", f"tell {name}")
            self.assertEqual(parse_module(text).pieces[0].rows[1], ("addr", name, name))

    def test_all_integers(self):
        for k in range(100):
            module = parse_module(func(f"set a {k}", f"read a x {k}", f"readr a b {k}") + "\n" + data(str(k)))
            self.assertEqual([row[-1] for row in module.pieces[0].rows], [k] * 3)
            self.assertEqual(module.pieces[1].rows, (k,))

    def test_pieces_without_rows(self):
        module = parse_module(func() + "\n" + data())
        self.assertEqual([(len(piece), piece.rows) for piece in module.pieces], [(0, ()), (0, ())])

    def test_names_need_no_meaning(self):
        module = parse_module(rows("export gone", "alias k nothing", func("call none"), data("lost")))
        self.assertEqual(module.exports, ("gone",))

    def test_an_alias_of_itself_stands(self):
        self.assertEqual(parse_module("alias f f").aliases, (("f", "f"),))

    def test_an_alias_may_share_its_other(self):
        self.assertEqual(parse_module(rows("alias f h", "alias g h", "alias h f")).aliases,
                         (("f", "h"), ("g", "h"), ("h", "f")))

    def test_exports_may_be_alike_pieces_and_aliases(self):
        module = parse_module(rows("export f k", func(), "alias k f"))
        self.assertEqual(module.exports, ("f", "k"))


class Wrong(unittest.TestCase):

    def check(self, text, row):
        with self.assertRaises(BadText) as told:
            parse_module(text)
        self.assertEqual(told.exception.row, row, repr(text))
        self.assertIs(type(told.exception.row), type(row))

    def check_row(self, row):
        """That an instruction is refused, between others and in the first row."""
        self.check(func(row), 1)
        self.check(func("ret", row, "ret"), 2)
        self.check(rows("export f", func("ret", row), func("x", name="g")), 3)

    def test_values_that_are_no_texts(self):
        for value in NO_TEXTS:
            self.check(value, None)

    def test_empty_rows(self):
        self.check("\n", 0)
        self.check("\n\n", 0)
        self.check(rows("", "export a"), 0)
        self.check(rows("export a", "", "export b"), 1)
        self.check(rows("func f", "", "end"), 1)
        self.check(rows("data x", "1", "", "end"), 2)

    def test_a_line_feed_at_the_end(self):
        self.check("export a\n", 1)
        self.check(func("ret") + "\n", 3)
        self.check(data("1", "2") + "\n", 4)
        self.check("alias a b\n", 1)
        self.check("func f\nret\n", 2)

    def test_spaces(self):
        for row in ["export  a", " export a", "export a ", "export a  b", "alias a  b", "alias  a b", " alias a b",
                    "alias a b ", "func  f", " func f", "func f ", "data x ", " data x", "data  x", " ", "  "]:
            self.check(row, 0)
            self.check(rows("export k", row), 1)
        for row in [" ret", "ret ", "call  f", "call f ", " call f", "set a  5", "set  a 5", "set a 5 ", " ", " end",
                    "end "]:
            self.check_row(row)
        for row in [" 1", "1 ", " g", "g ", " ", " end", "end "]:
            self.check(data("1", row), 2)

    def test_other_blanks(self):
        for row in ["export\ta", "export a\t", "export a\r", "func f\r", "alias a\tb", "export a\x0b", "export a\u00a0"]:
            self.check(row, 0)
        self.check("func f\nret\r\nend", 1)
        self.check("func f\nend\r", 1)
        self.check("export a\r\nexport b", 0)
        self.check("export a\rexport b", 0)
        self.check("export a\x0cexport b", 0)
        self.check("export a\u2028export b", 0)

    def test_rows_outside_of_pieces(self):
        for row in ["ret", "call f", "set a 5", "5", "f", "a", "end", "export", "alias", "alias a", "alias a b c",
                    "func", "func f g", "data", "data x y", "data x 1", "image 0", "EXPORT a", "Func f", "export_a",
                    "exporta", "name", "0"]:
            self.check(row, 0)
            self.check(rows("export k", row, "ret"), 1)
            self.check(rows(func("ret"), row), 3)

    def test_words_that_are_no_names(self):
        for word in BARRED + ["A", "1", "1a", "a_b", "abcdefghi", "m.f", "a,b", "\u00e9"]:
            for row in ["export " + word, "export k " + word, "export " + word + " k", "alias " + word + " k",
                        "alias k " + word, "func " + word, "data " + word]:
                self.check(row, 0)
            for row in ["call " + word, "addr a " + word, "read a " + word + " 0"]:
                self.check_row(row)

    def test_rows_that_stand_in_pieces(self):
        for row in ["export a", "alias a b", "func g", "data y"]:
            self.check(func(row), 1)
            self.check(func("ret", row, "ret"), 2)
            self.check(data(row), 1)
            self.check(data("1", row), 2)

    def test_data_words(self):
        for word in ["100", "101", "999", "1000", "00", "01", "09", "007", "-1", "+1", "-0", "1.0", "0x1", "1_0",
                     "1a", "\u0663", "\u00b2", "\uff11", "A", "a_b", "abcdefghi", "1 2", "f g", "f 1", "@1", "m.f",
                     "call f", "set a 5", "ret"] + BARRED:
            if word != "end":
                self.check(data(word), 1)
                self.check(data("0", "99", word, "5"), 3)

    def test_right_data_words(self):
        given = ["0", "9", "10", "99", "f", "a", "x", "abcdefgh", "a0"]
        self.assertEqual(parse_module(data(*given)).pieces[0].rows, (0, 9, 10, 99, "f", "a", "x", "abcdefgh", "a0"))

    def test_instructions_with_wrong_words(self):
        for row in ["call", "call f g", "callr", "callr f", "callr e", "callr a b", "callr 0", "ret a", "ret 0", "addr a",
                    "addr f g", "addr a 5", "addr a g h", "set a", "set 5", "set 5 a", "set a b", "set e 5", "set a 5 6",
                    "move a", "move a e", "move e a", "move a b c", "move a 5", "read a x", "read x 0", "read x x 0",
                    "read a 0 x", "read a x y", "read a x 0 0", "readr a b", "readr a x 0", "readr x a 0", "readr a b c",
                    "readr a b 0 0", "same a b", "same a 0", "same a b c", "same a e 0", "same e a 0", "same a b 0 0",
                    "same a 5 0", "choose", "choose a", "choose f", "choose 0 0", "tell", "tell 5", "tell e", "tell f",
                    "tell a b", "go", "go a", "go f", "go 0 0", "go -1", "jump 0", "f", "5", "a", "CALL f", "Ret", "nop",
                    "tell A", "tell ab", "tell abcd", "move ab c", "callr "]:
            self.check_row(row)

    def test_instructions_with_wrong_integers(self):
        for word in ["100", "00", "01", "-1", "+1", "1.0", "1_0", "\u0663", "\u00b2", "x", "999"]:
            for head in ["set a ", "read a x ", "readr a b ", "same a b ", "choose ", "go "]:
                self.check_row(head + word)

    def test_alike_names(self):
        firsts = [func(), data(name="f"), "alias f k"]
        for first in firsts:
            many = len(first.split("\n"))
            for second in firsts:
                self.check(rows(first, second), many)
                self.check(rows("export a", first, "export b", second, second), many + 2)
        self.check(rows("alias f k", "alias k f", "alias f g"), 2)

    def test_an_alike_name_is_wrong_at_its_head(self):
        self.check(rows(func(), "func f", "wrong"), 2)
        self.check(rows(func(), "func f"), 2)

    def test_alike_exports(self):
        self.check("export a a", 0)
        self.check("export a b a", 0)
        self.check(rows("export a", "export a"), 1)
        self.check(rows("export a", "export b c", func(), "export d b"), 4)
        self.check(rows("export a b", "wrong", "export a"), 1)

    def test_many_rows(self):
        for many in (15, 16):
            self.assertEqual(len(parse_module(func(*["ret"] * many)).pieces[0]), many)
            self.assertEqual(len(parse_module(data(*["f"] * many)).pieces[0]), many)
        for many in (17, 18, 40):
            self.check(func(*["ret"] * many), 17)
            self.check(data(*["1"] * many), 17)
            self.check(rows("export k", func("ret", name="g"), func(*["ret"] * many)), 21)

    def test_the_17th_row_of_a_piece_without_end(self):
        self.check(rows("func f", *["ret"] * 16), 17)
        self.check(rows("func f", *["ret"] * 17), 17)
        self.check(rows("func f", *["ret"] * 18), 17)

    def test_the_17th_row_comes_ahead_of_a_great_to(self):
        self.check(func("go 50", *["ret"] * 16), 17)

    def test_each_piece_has_its_own_rows(self):
        module = parse_module(rows(*[func(*["ret"] * 16, name=f"f{k}") for k in range(12)]))
        self.assertEqual([len(piece) for piece in module.pieces], [16] * 12)

    def test_many_pieces(self):
        pieces = [func(name=f"f{k}") if k % 2 else data(name=f"f{k}") for k in range(14)]
        self.assertEqual(len(parse_module(rows(*pieces[:12])).pieces), 12)
        self.check(rows(*pieces[:13]), 24)
        self.check(rows(*pieces), 24)
        self.check(rows("export a", *pieces[1:14]), 25)
        self.check(rows(*pieces[:12], "func f99"), 24)

    def test_rows_that_are_no_heads_behind_twelve_pieces(self):
        pieces = [func(name=f"f{k}") for k in range(12)]
        module = parse_module(rows(*pieces, *[f"alias a{k} f0" for k in range(20)], "export a7"))
        self.assertEqual((len(module.pieces), len(module.aliases), module.exports), (12, 20, ("a7",)))

    def test_to_as_great_as_the_rows(self):
        for row in ["go 3", "choose 3", "same a b 3"]:
            self.assertEqual(len(parse_module(func("ret", row, "ret")).pieces[0]), 3)
            self.check(func("ret", row), 2)
        self.assertEqual(parse_module(func("go 1")).pieces[0].rows, (("go", 1),))
        self.assertEqual(parse_module(func("go 0")).pieces[0].rows, (("go", 0),))
        self.check(func("go 2"), 1)
        self.check(func("choose 99"), 1)
        self.check(func("same a a 2"), 1)
        self.assertEqual(len(parse_module(func(*["go 16"] * 16)).pieces[0]), 16)
        self.check(func(*["ret"] * 15, "go 17"), 16)

    def test_numbers_that_are_no_to_may_be_greater(self):
        self.assertEqual(len(parse_module(func("set a 99", "read a x 99", "readr a b 99")).pieces[0]), 3)

    def test_to_too_great_in_several_rows(self):
        self.check(func("ret", "go 4", "choose 5"), 2)
        self.check(func("go 3", "same a b 4", "choose 4"), 2)
        self.check(func("choose 4", "same a b 4", "ret"), 1)
        self.check(rows(func("go 1"), func("ret", "go 3", name="g"), func("go 2", name="h")), 5)

    def test_a_great_to_is_looked_at_at_the_end(self):
        self.check(func("go 9", "wrong"), 2)
        self.check(func("go 9", "ret", "go x", "go 9"), 3)
        self.check(rows("func f", "go 9", "ret"), 3)
        self.check(rows(func("go 9"), "wrong"), 1)
        self.check(rows("func f", "go 9", "data x", "end"), 2)

    def test_a_great_to_is_fine_once_more_rows_follow(self):
        self.assertEqual(len(parse_module(func("go 3", "ret", "ret")).pieces[0]), 3)

    def test_no_end(self):
        self.check("func f", 1)
        self.check("data x", 1)
        self.check(rows("func f", "ret"), 2)
        self.check(rows("data x", "1", "2"), 3)
        self.check(rows("export a", func(), "func g", "ret"), 5)
        self.check(rows("func f", "ret", "func g", "end"), 2)

    def test_the_first_of_several_wrong_rows(self):
        self.check(rows("export a", "wrong", "worse"), 1)
        self.check(rows("export 5", "wrong"), 0)
        self.check(rows("func f", "wrong", "set a 100"), 1)
        self.check(rows("func f", "set a 100", "wrong"), 1)
        self.check(rows("data x", "100", "x x"), 1)
        self.check(rows(func("go 2"), func("wrong")), 1)


class Modules(unittest.TestCase):

    TEXTS = [
        "",
        "export a",
        "export a b\nexport c",
        "alias a b\nalias c a",
        func(*INSTRUCTIONS, *["ret"] * 4),
        func(),
        data(),
        data("0", "f", "99", "a"),
        rows(data("1"), "alias k f", func("go 1"), "export x", "alias p q", func("set d 9", name="g"), "export p k"),
        rows(*[func(*["same a b 16"] * 16, name=f"f{k}") for k in range(12)]),
    ]

    def test_text_of_a_module(self):
        for text in self.TEXTS:
            module = parse_module(text)
            self.assertIs(type(str(module)), str)
            again = parse_module(str(module))
            self.assertTrue(again == module, text)
            self.assertEqual(again.exports, module.exports)
            self.assertEqual(again.aliases, module.aliases)
            self.assertEqual([(piece.name, piece.kind, piece.rows) for piece in again.pieces],
                             [(piece.name, piece.kind, piece.rows) for piece in module.pieces])
            self.assertEqual(str(again), str(module))

    def test_order_of_the_text(self):
        module = parse_module(self.TEXTS[8])
        self.assertEqual(str(module), rows("export x p k", "alias k f", "alias p q", data("1"), func("go 1"),
                                           func("set d 9", name="g")))
        self.assertEqual(str(parse_module("export a b\nexport c")), "export a b c")
        self.assertEqual(str(parse_module("")), "")
        self.assertEqual(str(parse_module("alias a b")), "alias a b")

    def test_equal_modules(self):
        for text in self.TEXTS:
            self.assertTrue(parse_module(text) == parse_module(text))
            self.assertFalse(parse_module(text) != parse_module(text))
        self.assertEqual(parse_module("export a\nexport b"), parse_module("export a b"))
        self.assertEqual(parse_module(rows("export f", func())), parse_module(rows(func(), "export f")))
        self.assertEqual(parse_module(rows("alias k f", func())), parse_module(rows(func(), "alias k f")))

    def test_unlike_modules(self):
        base = rows("export f k", "alias k f", "alias p f", func("ret"), data("1"))
        others = [
            rows("export k f", "alias k f", "alias p f", func("ret"), data("1")),
            rows("export f", "alias k f", "alias p f", func("ret"), data("1")),
            rows("alias k f", "alias p f", func("ret"), data("1")),
            rows("export f k", "alias p f", "alias k f", func("ret"), data("1")),
            rows("export f k", "alias k f", func("ret"), data("1")),
            rows("export f k", "alias k x", "alias p f", func("ret"), data("1")),
            rows("export f k", "alias k f", "alias p f", data("1"), func("ret")),
            rows("export f k", "alias k f", "alias p f", func("ret")),
            rows("export f k", "alias k f", "alias p f", func("ret"), data("2")),
            rows("export f k", "alias k f", "alias p f", func("ret", "ret"), data("1")),
            "",
        ]
        for other in others:
            self.assertFalse(parse_module(base) == parse_module(other), other)
            self.assertTrue(parse_module(base) != parse_module(other), other)

    def test_other_kinds(self):
        for text in ("", func()):
            module = parse_module(text)
            for value in [None, 0, True, "", text, (), [], module.pieces, object(), Module]:
                self.assertFalse(module == value)
                self.assertTrue(module != value)
                self.assertFalse(value == module)
        module = parse_module(func())
        self.assertFalse(module == module.pieces[0])
        self.assertTrue(module.pieces[0] != module)

    def test_names_in_a_module(self):
        module = parse_module(rows("export gone f", "alias k other", func("call g"), data("word")))
        for name in ["f", "x", "k"]:
            self.assertIs(name in module, True)
        for name in ["gone", "other", "g", "word", "", "func", "F", "f ", "m.f"]:
            self.assertIs(name in module, False)
            self.assertIs(name not in module, True)
        self.assertFalse("f" in parse_module(""))

    def test_iteration(self):
        module = parse_module(rows(func(), data(), "alias k f", func(name="g")))
        self.assertEqual([piece.name for piece in module], ["f", "x", "g"])
        self.assertEqual(list(module), list(module.pieces))
        self.assertEqual([piece.name for piece in module], ["f", "x", "g"])
        self.assertEqual(list(parse_module("export a")), [])


class Pieces(unittest.TestCase):

    def piece(self, text):
        return parse_module(text).pieces[0]

    def test_attributes(self):
        piece = self.piece(func("set a 5", "ret", name="abc"))
        self.assertEqual((piece.name, piece.kind, piece.rows), ("abc", "func", (("set", "a", 5), ("ret",))))
        piece = self.piece(data("k", "5", name="abc"))
        self.assertEqual((piece.name, piece.kind, piece.rows), ("abc", "data", ("k", 5)))

    def test_length(self):
        for many in (0, 1, 2, 15, 16):
            self.assertEqual(len(self.piece(func(*["ret"] * many))), many)
            self.assertEqual(len(self.piece(data(*["5"] * many))), many)

    def test_equal_pieces(self):
        for text in [func(), data(), func("ret", "call f"), data("f", "5")]:
            self.assertTrue(self.piece(text) == self.piece(rows("export a", text, func(name="other"))))
            self.assertFalse(self.piece(text) != self.piece(text))

    def test_unlike_pieces(self):
        pairs = [(func(), func(name="g")), (func(), data(name="f")), (func(), func("ret")),
                 (func("call f"), func("call g")), (func("set a 1"), func("set a 2")),
                 (func("set a 1"), func("set b 1")), (data("1"), data("2")), (data("1", "2"), data("2", "1")),
                 (data("1"), data("a")), (data(), data(name="y"))]
        for one, other in pairs:
            self.assertFalse(self.piece(one) == self.piece(other), (one, other))
            self.assertTrue(self.piece(one) != self.piece(other), (one, other))

    def test_other_kinds(self):
        for text in [func(), data("1")]:
            piece = self.piece(text)
            for value in [None, 0, "f", (), [], piece.rows, (piece.name, piece.kind, piece.rows), object(), Piece]:
                self.assertFalse(piece == value)
                self.assertTrue(piece != value)
                self.assertFalse(value == piece)

    def test_methods_stand_in_the_classes(self):
        for name in ["__contains__", "__str__", "__iter__", "__eq__"]:
            self.assertIn(name, Module.__dict__)
        for name in ["__len__", "__eq__"]:
            self.assertIn(name, Piece.__dict__)
        for told in (is_name, parse_module, Module, Piece):
            self.assertEqual(told.__module__, "foldsame.texts")


if __name__ == "__main__":
    unittest.main()
