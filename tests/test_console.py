"""The console: each kind of line, each error word, and its trials."""

import unittest

from helpers import ANY_VALUES, error_of, func, long_program, rows
from foldsame.console import Console
from foldsame.errors import BadName
from foldsame.journal import Bench, recover

TEXT = "export main / func main / call f / end / func f / tell a / end / func g / tell a / end"
FULL = "export main / func main / tell a / end"


def held(console):
    bench = console.bench
    return (list(bench.modules.items()), list(bench.shelf.items()), bench.journal, bench.last)


def filled():
    console = Console()
    for line in ["put m " + TEXT, "shelve x export f", "link"]:
        assert not console(line).startswith("error")
    return console


class Lines(unittest.TestCase):

    def test_its_bench(self):
        console = Console()
        self.assertIsInstance(console.bench, Bench)
        self.assertEqual((console.bench.entry, Console("x").bench.entry, Console(entry="y").bench.entry), ("main", "x", "y"))
        for value in [value for value in ANY_VALUES if value != "m" or not isinstance(value, str)]:
            found = error_of(Console, value)
            self.assertIs(found[0], BadName)
            self.assertIs(found[1], value)

    def test_put_shelve_and_drop(self):
        console = Console()
        for line in ["put m " + TEXT, "put n", "shelve x export f / func f / end", "shelve y", "put m " + FULL, "drop n", "drop y"]:
            self.assertEqual(console(line), "done")
        self.assertEqual((console.bench.modules, console.bench.shelf),
                         ({"m": FULL.replace(" / ", "\n")}, {"x": "export f\nfunc f\nend"}))
        self.assertEqual(console.bench.journal.split("\n")[1:3], ["2 put n", "3 shelve x export f / func f / end"])

    def test_link(self):
        console = Console()
        console("put m export main / func main / call f / end")
        console("shelve x export f / func f / tell a / tell b / end")
        self.assertEqual((console("link"), console.bench.last.size), ("size 3", 3))

    def test_a_line_by_name(self):
        self.assertEqual(Console()(line="put m"), "done")

    def test_ask(self):
        console = filled()
        for question, wanted in [("all", "m.f m.g m.main"), (" used", "m.f m.main"), ("bodies(m.g) - used", "m.g"), ("taken", "none"),
                                 ("m.f-m.f", "none"), ("  leads( m.f )  ", "m.f m.main")]:
            self.assertEqual(console("ask " + question), wanted)

    def test_show(self):
        console = filled()
        self.assertEqual(console("show"), "m.f                 1  2  0 used\nm.main              1  1  0 used")
        console = Console("main")
        parts = ["export main", func("main", "addr a fff", "callr a", "addr b ggg"), func("fff", "tell c"), func("ggg", "tell c"), func("idle")]
        console("put longname " + rows(*parts).replace("\n", " / "))
        console("link")
        self.assertEqual(console("show").split("\n"), ["longname.fff        1  2  1 used", "longname.idle       0  1  0 left",
                                                     "longname.main       3  1  0 used"])
        # A body with several addresses; and data that no run looks at.
        parts = ["export main", func("main", "addr a f", "addr b g", "same a b 4", "tell c", "callr a"), func("f"), func("g"),
                 "data d\n1\n2\nf\nend"]
        console("put longname " + rows(*parts).replace("\n", " / "))
        console("link")
        self.assertEqual(console("show").split("\n"), ["longname.d          3  1  0 left", "longname.f          0  2  2 used",
                                                     "longname.main       5  1  0 used"])

    def test_wide_columns(self):
        parts = ["export main", func("main", *["tell a"] * 16), *[func(name) for name in "bcdfghijkl"]]
        console = Console()
        console("put abcdefgh " + rows(*parts).replace("\n", " / ").replace("main", "mainmain"))
        self.assertEqual(console("link"), "error name")
        console = Console("mainmain")
        console("put abcdefgh " + rows(*parts).replace("\n", " / ").replace("main", "mainmain"))
        self.assertEqual(console("link"), "size 16")
        self.assertEqual(console("show"), "abcdefgh.b          0 10  0 left\nabcdefgh.mainmain  16  1  0 used")


class Errors(unittest.TestCase):

    def test_no_lines(self):
        console = filled()
        before = held(console)
        for line in [*[value for value in ANY_VALUES if value != "m" or not isinstance(value, str)], "", " ", "m", "put", "put ", "put  m", "put m ",
                     "shelve", "shelve ", "shelve x ", "drop", "drop ", "drop m ", "drop m x", " drop m", "drop  m", "link ", " link", "link x", "Link",
                     "ask", "asks all", "show ", "show x", "begin ", " begin", "keep", "cancel", "keep 1", "cancel x", "do", "try", "compact", "1 link",
                     "put m\n", "link\n", "\nlink", "ask all\n", "ask \n", "put m export f\nfunc f", "ASK all", "recover", "help", b"link", ["link"]]:
            self.assertEqual(console(line), "error line", line)
        self.assertEqual(held(console), before)

    def test_name(self):
        console = filled()
        before = held(console)
        for name in ["M", "1", "func", "toolong99", "m.f", "/", "\u00e9", "m\tx"]:
            for rest in ("", " " + TEXT, " bad"):
                self.assertEqual([console(word + name + rest) for word in ("put ", "shelve ")], ["error name"] * 2, name)
        self.assertEqual(held(console), before)
        console = Console("go0")
        console("put m " + TEXT)
        self.assertEqual(console("link"), "error name")

    def test_module(self):
        console = filled()
        before = held(console)
        for text in ["bad", "/", " / ", "export f /", "export f /  func f / end", " export f", "export f ", "func f", "func f / go 2 / end", "a / b"]:
            self.assertEqual([console(word + text) for word in ("put m ", "shelve n ")], ["error module"] * 2, text)
        self.assertEqual(held(console), before)
        console("put m export main / func main / call none / end")
        before = held(console)
        self.assertEqual(console("link"), "error module")
        self.assertEqual(held(console), before)

    def test_unknown(self):
        console = filled()
        before = held(console)
        for line in ["drop none", "drop M", "drop m.f", "drop /", "ask m.none", "ask all - (used & x.y)"]:
            self.assertEqual(console(line), "error unknown", line)
        self.assertEqual(held(console), before)

    def test_clash(self):
        console = Console()
        console("put m export main / func main / call f / end")
        console("shelve m export f")
        self.assertEqual((console("link"), console.bench.last), ("error clash", None))

    def test_limit(self):
        long = long_program(201)
        text = "export main"
        for name in long.pieces:
            text += " / func " + name[2:] + "".join([" / " + " ".join(map(str, row)).replace("m.", "") for row in long.rows_of(name)]) + " / end"
        console = filled()
        console("put m " + text)
        before = held(console)
        self.assertEqual(console("link"), "error limit")
        self.assertEqual(held(console), before)
        console("put m export main" + "".join([f" / func f{number} / end" for number in range(12)]))
        console("put n export main")
        self.assertEqual(console("link"), "error module")
        console("drop n")
        console("put n " + "func g / end")
        self.assertEqual(console("link"), "error module")
        console("put m export main / func main / end" + "".join([f" / func f{number} / end" for number in range(11)]))
        self.assertEqual(console("link"), "error limit")

    def test_question(self):
        for console in (filled(), Console()):
            for question in ["", " ", "none", "all all", "(", "all &", "\u00e9", "all\t", "x" * 201, "(" * 9 + "all" + ")" * 9]:
                self.assertEqual(console("ask " + question), "error question", question)

    def test_unlinked(self):
        console = Console()
        self.assertEqual([console(line) for line in ("show", "ask all", "ask m.none", "ask bodies(x.y)")], ["error unlinked"] * 4)
        console("put m " + TEXT)
        self.assertEqual(console("show"), "error unlinked")
        console("link")
        console.bench.compact()
        self.assertEqual([console("show"), console("ask all")], ["error unlinked"] * 2)


class Trials(unittest.TestCase):

    def test_four_open(self):
        console = Console()
        self.assertEqual([console("begin") for _ in range(5)], ["trial 1", "trial 2", "trial 3", "trial 4", "error line"])
        self.assertEqual([console(line) for line in ("keep", "cancel", "begin", "keep", "cancel", "cancel", "keep", "cancel", "begin")],
                         ["trial 3", "trial 2", "trial 3", "trial 2", "trial 1", "trial 0", "error line", "error line", "trial 1"])

    def test_keep(self):
        console = filled()
        console("begin")
        console("put n")
        self.assertEqual(console("keep"), "trial 0")
        self.assertEqual(list(console.bench.modules), ["m", "n"])

    def test_cancel(self):
        console = filled()
        before = held(console)
        console("begin")
        for line in ["put m " + FULL, "link", "drop x", "shelve z"]:
            console(line)
        console.bench.compact()
        self.assertEqual(console("cancel"), "trial 0")
        self.assertEqual(held(console), before)

    def test_in_one_another(self):
        console = filled()
        before = held(console)
        seen = []
        for line in ["begin", "put n", "begin", "put o", "begin", "put p", "keep", "cancel"]:
            console(line)
            seen.append(list(console.bench.modules))
        self.assertEqual(seen[-3:], [["m", "n", "o", "p"], ["m", "n", "o", "p"], ["m", "n"]])
        console("cancel")
        self.assertEqual(held(console), before)

    def test_the_trials_of_the_bench(self):
        console = filled()
        console("begin")
        with console.bench.trial() as trial:
            console("put n")
            trial.cancel()
        console("put o")
        self.assertEqual((console("keep"), list(console.bench.modules)), ("trial 0", ["m", "o"]))

    def test_lines_that_do_not_count(self):
        console = filled()
        console("begin")
        console("bad")
        console("ask all")
        console("show")
        console("drop none")
        self.assertEqual(console("begin"), "trial 2")

    def test_the_journal_of_it(self):
        console = filled()
        for line in ["begin", "put n", "cancel", "begin", "put o", "keep", "link"]:
            console(line)
        self.assertEqual(recover(console.bench.journal).modules, console.bench.modules)
        self.assertEqual(console.bench.journal.split("\n")[3:], ["4 put o", "5 link", ""])

    def test_the_example(self):
        console = Console()
        self.assertEqual((console("put m " + TEXT), console("link"), console("ask bodies(m.g) - used"), console("show")),
                         ("done", "size 2", "m.g", "m.f                 1  2  0 used\nm.main              1  1  0 used"))


if __name__ == "__main__":
    unittest.main()
