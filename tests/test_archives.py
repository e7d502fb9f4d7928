"""Archives: which members join modules, and why."""

import copy
import unittest

from helpers import ANY_VALUES, data, error_of, func, rows
from foldsame.archives import gather
from foldsame.errors import BadModule, BadName, Clash
from foldsame.programs import Program

MAIN = rows("export main", func("main", "call f"))


def joined(modules, *archives, entry="main"):
    return gather(modules, list(archives), entry)[1]


class Joining(unittest.TestCase):

    def test_nothing_is_open(self):
        modules = {"m": rows("export main", func("main"))}
        self.assertEqual(gather(modules, []), (modules, ()))
        self.assertEqual(gather(modules, [{}, {"x": "export f\nfunc f\nend"}]), (modules, ()))

    def test_what_nobody_exports_stays_open(self):
        modules = {"m": rows("export main", func("main", "call none"))}
        self.assertEqual(gather(modules, [{"x": rows("export f", func("f"))}]), (modules, ()))
        # A piece that is not exported helps nobody.
        self.assertEqual(joined(modules, {"x": func("none")}), ())

    def test_by_each_kind_of_name(self):
        for part in [func("main", "call f"), func("main", "addr a f"), func("main", "read a f 0"), func("main") + "\n" + data("d", "1", "f"),
                     func("main") + "\nalias g f"]:
            self.assertEqual(joined({"m": rows("export main", part)}, {"x": "export f"}), (("f", 0, "x"),), part)
        # What a module exports, and what its heads name, is no such NAME.
        self.assertEqual(joined({"m": rows("export main f", func("main"))}, {"x": "export f"}), ())

    def test_names_of_the_module_are_not_open(self):
        for part in [func("f"), data("f", "1"), "alias f main"]:
            self.assertEqual(joined({"m": rows(MAIN, part)}, {"x": "export f"}), ())
        # Another module's piece is not this one's; what it exports is nobody's open name.
        self.assertEqual(joined({"m": MAIN, "n": func("f")}, {"x": "export f"}), (("f", 0, "x"),))
        self.assertEqual(joined({"m": MAIN, "n": rows("export f", func("f"))}, {"x": "export f"}), ())
        self.assertEqual(joined({"m": MAIN, "n": "export f"}, {"x": "export f"}), ())

    def test_the_entry(self):
        member = rows("export main", func("main"))
        self.assertEqual(gather({}, [{"x": member}]), ({"x": member}, (("main", 0, "x"),)))
        self.assertEqual(joined({"m": func("main")}, {"x": member}), (("main", 0, "x"),))
        self.assertEqual(joined({"m": member}, {"x": rows("export go0", func("go0"))}, entry="go0"), (("go0", 0, "x"),))
        self.assertEqual(joined({"m": member}, {"x": member}), ())
        self.assertEqual(joined({}, {}), ())

    def test_the_least_open_name_first(self):
        modules = {"m": rows("export main", func("main", "call z", "call b", "call none", "call f"))}
        archive = {"zz": "export b", "aa": "export z", "mm": "export f"}
        self.assertEqual(joined(modules, archive), (("b", 0, "zz"), ("f", 0, "mm"), ("z", 0, "aa")))
        # A member that joins opens a name that is less than those that are open.
        archive["zz"] = rows("export b", func("b", "call a"))
        archive["x"] = "export a"
        self.assertEqual(joined(modules, archive), (("b", 0, "zz"), ("a", 0, "x"), ("f", 0, "mm"), ("z", 0, "aa")))
        # One member may close several.
        archive["zz"] = "export z b f"
        self.assertEqual(joined(modules, archive), (("b", 0, "zz"),))

    def test_the_first_archive_and_the_least_member(self):
        modules = {"m": MAIN}
        self.assertEqual(joined(modules, {"z": "export f"}, {"a": "export f"}), (("f", 0, "z"),))
        self.assertEqual(joined(modules, {"z": "export g"}, {"a": "export f"}), (("f", 1, "a"),))
        self.assertEqual(joined(modules, {"z": "export f", "c": "export f g", "b": "export g"}), (("f", 0, "c"),))

    def test_over_several_archives(self):
        modules = {"m": MAIN}
        archives = [{"b": rows("export g", func("g", "call f"))}, {"a": rows("export f", func("f", "call g", "call h"))},
                    {"c": "export h", "d": "export g"}]
        self.assertEqual(joined(modules, *archives), (("f", 1, "a"), ("g", 0, "b"), ("h", 2, "c")))

    def test_the_dict_that_is_found(self):
        modules = {"z": MAIN, "a": ""}
        archive = {"y": rows("export f", func("f", "call g")), "b": "export g", "c": "export h"}
        found, _ = gather(modules, [archive])
        self.assertEqual(list(found.items()), [("z", MAIN), ("a", ""), ("y", archive["y"]), ("b", "export g")])

    def test_it_makes_a_program(self):
        modules = {"m": rows("export main", func("main", "call f", "read a d 0"), "alias f g")}
        archives = [{"x": rows("export g", func("g", "addr b d")), "y": rows("export d", data("d", "1", "e"))},
                    {"z": rows("export e", func("e", "call g"))}]
        found, why = gather(modules, archives)
        self.assertEqual(why, (("d", 0, "y"), ("e", 1, "z"), ("g", 0, "x")))
        self.assertEqual(Program(found).pieces, ("m.main", "x.g", "y.d", "z.e"))


class Wrong(unittest.TestCase):

    def test_keys(self):
        for value in [None, True, 5, "", "M", "func", "toolong99", "m.f", ("m",), 1.5]:
            self.assertEqual(error_of(gather, {"m": MAIN, value: ""}, [], 5), (BadName, value))
            self.assertEqual(error_of(gather, {value: "wrong", "m": "wrong"}, [{"X": ""}], 5), (BadName, value))
            self.assertEqual(error_of(gather, {"m": MAIN}, [{}, {"x": "", value: "wrong"}], 5), (BadName, value))
        self.assertEqual(error_of(gather, {"m": MAIN, "Z": "", "A": ""}, []), (BadName, "Z"))

    def test_texts(self):
        for value in ANY_VALUES:
            if not isinstance(value, str):
                self.assertEqual(error_of(gather, {"m": MAIN, "n": value}, [], 5), (BadModule, "n", None))
                self.assertEqual(error_of(gather, {"m": MAIN}, [{"n": value}], 5), (BadModule, "n", None))
        self.assertEqual(error_of(gather, {"z": "bad", "b": "export f\nbad", "c": "bad"}, []), (BadModule, "b", 1))
        self.assertEqual(error_of(gather, {"m": MAIN}, [{"z": "bad", "b": "func f\n"}]), (BadModule, "b", 1))

    def test_in_their_order(self):
        wrong_key, wrong_text = {"x": "bad", "X": ""}, {"x": "", "y": "bad"}
        self.assertEqual(error_of(gather, {"m": "bad"}, [wrong_key], None), (BadModule, "m", 0))
        self.assertEqual(error_of(gather, {"m": MAIN}, [wrong_text, wrong_key], None), (BadModule, "y", 0))
        self.assertEqual(error_of(gather, {"m": MAIN}, [wrong_key, wrong_text], None), (BadName, "X"))
        # Members that would not join are looked at, too; what no program allows is not.
        self.assertEqual(error_of(gather, {"m": MAIN}, [{}, {"q": "bad"}]), (BadModule, "q", 0))
        self.assertIsNone(error_of(gather, {"m": rows(MAIN, "export x", "alias y y")}, []))

    def test_the_entry(self):
        for value in [value for value in ANY_VALUES if value != "m"]:
            found = error_of(gather, {"m": MAIN}, [{"m": "export f"}], value)
            self.assertIs(found[0], BadName)
            self.assertIs(found[1], value)
        for value in ("func", "m.main", "Main", "set"):
            self.assertEqual(error_of(gather, {}, [], value), (BadName, value))

    def test_a_clash(self):
        self.assertEqual(error_of(gather, {"m": MAIN}, [{"m": "export f"}]), (Clash, "m"))
        # Also with one that joined.
        archives = [{"x": rows("export f", func("f", "call g"))}, {"x": "export g"}]
        self.assertEqual(error_of(gather, {"m": MAIN}, archives), (Clash, "x"))
        # Names that are not taken, or not by the least member, do not clash.
        self.assertEqual(joined({"m": MAIN}, {"m": "export f", "a": "export f"}), (("f", 0, "a"),))
        self.assertEqual(joined({"m": MAIN}, {"m": "export x"}, {"y": "export f"}), (("f", 1, "y"),))


class Unchanged(unittest.TestCase):

    def test_arguments(self):
        modules, archives = {"m": MAIN}, [{"x": "export f", "y": ""}, {}]
        copies = copy.deepcopy((modules, archives))
        found, _ = gather(modules, archives)
        self.assertEqual((modules, archives), copies)
        found["q"] = ""
        self.assertEqual((modules, list(gather(modules, archives)[0])), (copies[0], ["m", "x"]))
        self.assertIsNot(gather({"m": ""}, [])[0], gather({"m": ""}, [])[0])

    def test_by_name(self):
        self.assertEqual(gather(modules={"m": MAIN}, archives=[], entry="f"), ({"m": MAIN}, ()))

    def test_the_example(self):
        found = gather({"m": "export main\nfunc main\ncall f\nend"}, [{"x": "export f\nfunc f\ncall g\nend", "y": "export g"}])
        self.assertEqual((list(found[0]), found[1]), (["m", "x", "y"], (("f", 0, "x"), ("g", 0, "y"))))


if __name__ == "__main__":
    unittest.main()
