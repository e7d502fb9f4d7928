"""Images: their rows, texts, and runs, and the reading of such texts."""

import unittest

from helpers import ANY_VALUES, NO_FULL_NAMES, Odd, data, error_of, func, parts_of, program_of, programs_at_random
from helpers import rows, stable_parts, holds
from foldsame.errors import BadText, UnknownName
from foldsame.foldings import Folding, foldings, plain
from foldsame.images import Image, Linked, load
from foldsame.machine import record, records
from foldsame.programs import Program
from foldsame.texts import parse_module

PROGRAM = program_of(
    func("main", "addr a g", "callr a", "call i", "read b y 1", "same a b 5", "readr c d 0", "ret"),
    func("f", "tell b", "addr d x"), func("g", "tell b", "addr d y"), func("h", "set a 5"), func("i", "set a 5"),
    data("x", "1", "g", "99"), data("y", "1", "f", "99"),
    func("k", "addr c f", "addr c g", "choose 2", "go 0", "move a d"))
JOINED = Folding(PROGRAM, (("m.f", "m.g"), ("m.x", "m.y")),
                 (("m.f", "m.g"), ("m.h", "m.i"), ("m.k",), ("m.main",), ("m.x", "m.y")))
TEXT = rows("image 3", "address 0 m.f m.g", "address 4 m.x m.y", "func m.f m.g", "tell b", "addr d 1", "end",
            "func m.h m.i", "set a 5", "end", "func m.k", "addr c 0", "addr c 0", "choose 2", "go 0", "move a d", "end",
            "func m.main", "addr a 0", "callr a", "call 1", "read b 4 1", "same a b 5", "readr c d 0", "ret", "end",
            "data m.x m.y", "1", "@0", "99", "end")


def changed(number, *lines):
    """The text with other rows in place of the one of this number."""
    given = TEXT.split("\n")
    return rows(*given[:number], *lines, *given[number + 1:])


class Images(unittest.TestCase):

    def test_example_of_the_document(self):
        main = 'export main\nfunc main\naddr a f\naddr b g\nsame a b 4\ntell c\nend'
        program = Program({'m': main + '\nfunc f\nend\nfunc g\nend'})
        self.assertEqual(str(Image(list(foldings(program))[0])).split('\n')[:3],
                         ['image 1', 'address 0 m.f m.g', 'func m.f m.g'])

    def test_attributes(self):
        image = Image(folding=JOINED)
        self.assertIs(image.folding, JOINED)
        self.assertIsInstance(image, Linked)
        self.assertEqual((image.entry, image.bodies, image.taken),
                         ("m.main", ("m.f", "m.h", "m.k", "m.main", "m.x"), ("m.f", "m.x")))
        self.assertEqual((len(image), list(image)), (5, ["m.f", "m.h", "m.k", "m.main", "m.x"]))

    def test_kinds_and_rows(self):
        image = Image(JOINED)
        self.assertEqual([image.kind_of(name) for name in image], ["func", "func", "func", "func", "data"])
        self.assertEqual(image.rows_of("m.f"), (("tell", "b"), ("addr", "d", "m.x")))
        self.assertEqual(image.rows_of(name="m.main"),
                         (("addr", "a", "m.f"), ("callr", "a"), ("call", "m.h"), ("read", "b", "m.x", 1),
                          ("same", "a", "b", 5), ("readr", "c", "d", 0), ("ret",)))
        self.assertEqual(image.rows_of("m.x"), (1, "m.f", 99))

    def test_homes(self):
        image = Image(JOINED)
        self.assertEqual((image.home_of("m.f"), image.home_of(name="m.x")), ("m.f", "m.x"))
        program = program_of(func("main", "addr a g", "addr a h"), func("f"), func("g"), func("h"))
        image = Image(Folding(program, (("m.g",), ("m.h",)), (("m.f", "m.g", "m.h"), ("m.main",))))
        self.assertEqual((image.home_of("m.g"), image.home_of("m.h"), image.taken), ("m.f", "m.f", ("m.g", "m.h")))
        self.assertEqual(image.rows_of("m.main"), (("addr", "a", "m.g"), ("addr", "a", "m.h")))
        self.assertEqual(str(image), rows("image 1", "address 0 m.g", "address 0 m.h", "func m.f m.g m.h", "end",
                                          "func m.main", "addr a 0", "addr a 1", "end"))

    def test_unknown_names(self):
        image = Image(JOINED)
        for value in NO_FULL_NAMES[:2] + NO_FULL_NAMES[3:] + ANY_VALUES + ["m.g", "m.i", "m.y"]:
            if isinstance(value, str) and value in ("m.f", "m.main"):
                continue
            self.assertIs(value in image, False, repr(value))
            for call in (image.kind_of, image.rows_of, image.home_of):
                with self.assertRaises(UnknownName) as caught:
                    call(value)
                self.assertIs(caught.exception.value, value)
        for value in ("m.h", "m.k", "m.main"):
            self.assertIs(value in image, True)
            self.assertEqual(error_of(image.home_of, value), (UnknownName, value))

    def test_text(self):
        self.assertEqual(str(Image(JOINED)), TEXT)
        self.assertEqual(str(Image(plain(program_of(func("main"))))), rows("image 0", "func m.main", "end"))

    def test_text_of_the_plain_image(self):
        program = Program({"m": rows("export main", func("main", "call g"), data("x", "g", "7", "x")),
                           "a": rows("export g", func("g", "ret"))})
        self.assertEqual(str(Image(plain(program))),
                         rows("image 1", "address 0 a.g", "address 2 m.x", "func a.g", "ret", "end", "func m.main",
                              "call 0", "end", "data m.x", "@0", "7", "@1", "end"))

    def test_equality(self):
        image = Image(JOINED)
        same = [Image(JOINED), load(TEXT), load(str(image))]
        for other in same:
            self.assertTrue(image == other)
            self.assertTrue(other == image)
            self.assertFalse(image != other)
        unlike = [Image(plain(PROGRAM)), load(changed(8, "set a 6")), TEXT, None, JOINED, 0, Image]
        for other in unlike:
            self.assertFalse(image == other)
            self.assertTrue(image != other)

    def test_runs_beside_those_of_the_program(self):
        for program in programs_at_random(60):
            for bodies in stable_parts(program, plain(program).addresses)[:8] if len(program) < 6 else []:
                image = Image(Folding(program, plain(program).addresses, bodies))
                self.assertEqual(list(records(image, 4)), list(records(program, 4)))

    def test_runs_of_what_was_loaded(self):
        for program in programs_at_random(60):
            for folding in list(foldings(program))[:4]:
                image = Image(folding)
                linked = load(str(image))
                self.assertEqual(list(records(image, 4)), list(records(linked, 4)))
                self.assertEqual((linked.entry, linked.bodies, linked.taken), (image.entry, image.bodies, image.taken))


class Load(unittest.TestCase):

    def check_row(self, row, text):
        self.assertEqual(error_of(load, text), (BadText, row), text)

    def test_what_a_text_gives(self):
        linked = load(text=TEXT)
        self.assertIs(type(linked), Linked)
        self.assertEqual(str(linked), TEXT)
        self.assertEqual((linked.entry, linked.bodies, linked.taken),
                         ("m.main", ("m.f", "m.h", "m.k", "m.main", "m.x"), ("m.f", "m.x")))
        self.assertEqual(linked.rows_of("m.f"), (("tell", "b"), ("addr", "d", "m.x")))
        self.assertEqual(linked.rows_of("m.x"), (1, "m.f", 99))
        self.assertEqual((linked.kind_of("m.x"), linked.home_of("m.x")), ("data", "m.x"))
        self.assertEqual(record(linked, []), record(Image(JOINED), []))

    def test_each_text(self):
        for program in programs_at_random(60):
            for addresses in parts_of(program.taken)[:5]:
                for bodies in (stable_parts(program, addresses)[:5] if len(program) < 6 else []):
                    if holds(bodies, addresses):
                        text = str(Image(Folding(program, addresses, bodies)))
                        self.assertEqual(str(load(text)), text)

    def test_no_texts(self):
        for value in [None, 0, True, b"image 0", [TEXT], (TEXT,), Odd(), {}, Image(JOINED)]:
            self.check_row(None, value)

    def test_empty_text(self):
        self.check_row(0, "")
        self.check_row(0, chr(10))

    def test_first_row(self):
        for row in ["", "image", "image x", "image -1", "image 03", "image 100", "image m.main", "images 3", "Image 3",
                    "address 0 m.f m.g", "func m.f", "end", " image 3", "3", "image  3", "image @3", "image " + chr(0x663)]:
            self.check_row(0, changed(0, row))
        self.check_row(0, TEXT[8:])

    def test_rows_of_addresses(self):
        for row in ["", "address", "address x m.f m.g", "address 00 m.f m.g", "address 0", "address 100 m.f", "address m.f",
                    "adress 0 m.f", "address 0 mf", "address 0 m.f m.g ", "address 0  m.f", "address 0 m.f x", "end",
                    "image 3", "tell b", "address 0 m.f.g", "address 0 .f", "address 0 m.", "address 0 m.end",
                    "address 0 M.f", "address 0 m.123456789", "address @0 m.f m.g"]:
            self.check_row(1, changed(1, row))
            self.check_row(2, changed(2, row))
        self.check_row(17, changed(17, "address 4 m.x m.y", "func m.main"))

    def test_heads(self):
        for row in ["", "func", "data", "function m.f", "func f", "func m.f m", "func m.f  m.g", "func m.f m.g ",
                    "end", "tell b", "image 3", "func 0", "func m.f @0", "func m.func"]:
            self.check_row(3, changed(3, row))
            self.check_row(7, changed(7, row))

    def test_instructions(self):
        for row in ["", "tell", "tell e", "tell b b", "tell b ", "func m.l", "data m.l", "address 0 m.l", "image 3", "7",
                    "@0", "call m.f", "call x", "call", "call 100", "call 00", "call @0", "addr a m.f", "addr a",
                    "addr e 0", "addr a @0", "read a 4", "read a m.x 0", "read a 4 100", "set a 100", "set a 05",
                    "go 100", "same a b", "choose x", "end end", "End", " end"]:
            self.check_row(4, changed(4, row))
            self.check_row(19, changed(19, row))

    def test_words_of_data(self):
        for row in ["", "x", "m.f", "@", "@x", "@00", "@100", "@-1", "0 0", "@0 ", " 1", "100", "01", "-1", "tell b", "@@0",
                    "0@", "func m.l", "address 0 m.l", "end 1", "@ 0"]:
            self.check_row(27, changed(27, row))

    def test_the_first_wrong_row(self):
        text = changed(4, "wrong", "wrong")
        self.check_row(4, text)
        self.check_row(0, "wrong" + text[5:])
        self.check_row(4, text.replace("image 3", "image 99"))
        self.check_row(4, text.replace("image 3", "image 3 3"))
        self.check_row(4, text.replace("m.f m.g", "m.g m.f"))

    def test_an_end_lacks(self):
        lines = TEXT.split(chr(10))
        self.check_row(30, rows(*lines[:-1]))
        self.check_row(29, rows(*lines[:-2]))
        self.check_row(4, rows(*lines[:4]))
        self.check_row(6, changed(6))
        self.check_row(3, rows("image 9", "address 7 m.f", "func m.g"))

    def test_rows_behind_the_last_end(self):
        for row in ["", "end", "tell a", "1", "image 3", "address 0 m.z", "wrong"]:
            self.check_row(31, TEXT + chr(10) + row)

    def test_at_most_16_rows(self):
        for kind, row in [("func", "ret"), ("data", "1")]:
            text = [rows("image 0", "func m.a1", "end", kind + " m.f", *[row] * many, "end") for many in (16, 17, 18)]
            self.assertEqual(len(load(text[0]).rows_of("m.f")), 16)
            self.check_row(20, text[1])
            self.check_row(20, text[2])
            self.check_row(20, rows(*text[1].split(chr(10))[:-1]))

    def test_numbers_that_name_nothing(self):
        for number, row in [(0, "image 5"), (0, "image 99"), (1, "address 5 m.f m.g"), (5, "addr d 2"), (5, "addr d 99"),
                            (20, "call 5"), (21, "read b 5 1"), (21, "read b 4 3"), (27, "@2"), (27, "@99")]:
            self.check_row(None, changed(number, row))
        self.check_row(None, "image 0")
        self.check_row(None, "image 0" + chr(10) + "address 0 m.f")

    def test_numbers_of_another_kind(self):
        for number, row in [(0, "image 4"), (20, "call 4"), (21, "read b 0 0"), (21, "read b 1 0")]:
            self.check_row(None, changed(number, row))
        self.assertEqual(str(load(changed(21, "read b 4 2"))), changed(21, "read b 4 2"))

    def test_names_that_are_no_partitions(self):
        for number, row in [(3, "func m.g m.f"), (3, "func m.f m.f m.g"), (3, "func m.f m.g m.h"), (3, "func m.z"),
                            (3, "func m.f"), (1, "address 0 m.g m.f"), (1, "address 0 m.f m.f m.g"),
                            (1, "address 4 m.x"), (2, "address 0 m.f m.g")]:
            self.check_row(None, changed(number, row))
        self.check_row(None, changed(1, "address 4 m.x m.y").replace("address 4 m.x m.y", "address 0 m.f m.g", 2))
        swapped = TEXT.split(chr(10))
        swapped[1], swapped[2] = swapped[2], swapped[1]
        self.check_row(None, rows(*swapped))

    def test_bodies_that_are_not_in_order(self):
        self.check_row(None, rows("image 0", "func m.g", "end", "func m.f", "end"))
        self.assertEqual(load(rows("image 0", "func m.f", "end", "func m.g", "end")).entry, "m.f")

    def test_addresses_outside_of_their_bodies(self):
        for row in ["address 1 m.f m.g", "address 3 m.f m.g", "address 0 m.f m.h", "address 0 m.f m.none", "address 0 m.h"]:
            self.check_row(None, changed(1, row))

    def test_an_address_that_no_row_takes(self):
        text = rows("image 1", "address 0 m.f", "address 1 m.main", "func m.f", "end", "func m.main", "end")
        self.assertEqual(load(text).taken, ("m.f", "m.main"))
        self.assertEqual(str(load(text)), text)
        self.assertEqual(load(changed(1, "address 0 m.f")).taken, ("m.f", "m.x"))
        self.assertEqual(load(changed(1, "address 0 m.g")).home_of("m.g"), "m.f")

    def test_a_to_that_is_too_great(self):
        for row in ["go 8", "choose 8", "same a b 8", "go 99"]:
            self.check_row(None, changed(22, row))
        for row in ["go 7", "choose 7", "same a b 7"]:
            self.assertEqual(str(load(changed(22, row))), changed(22, row))

    def test_a_text_that_is_written_otherwise(self):
        for row in ["image 3 3", "image 3 x", "image 3 ", "image 3 m.main", "image 3 0 0"]:
            self.check_row(None, changed(0, row))

    def test_texts_of_modules_are_none(self):
        self.assertEqual(len(parse_module("func f" + chr(10) + "end").pieces), 1)
        self.check_row(0, "func f" + chr(10) + "end")


if __name__ == "__main__":
    unittest.main()
