"""The bench: deeds, trials, and journals that are recovered."""

import random
import unittest

from helpers import ANY_VALUES, data, error_of, func, long_program, rows
from foldsame.anew import Link
from foldsame.checker import check_smallest
from foldsame.errors import BadJournal, BadModule, BadName, BadValue, Clash, LimitExceeded, UnknownName
from foldsame.journal import Bench, recover
from foldsame.programs import Program

MAIN = rows("export main", func("main", "call f"))
FULL = rows("export main", func("main", "tell a"))
NOTICED = rows("export main", func("main", "addr a f", "addr b g", "same a b 4", "tell c"), func("f"), func("g"))
NO_NAMES = [value for value in ANY_VALUES if value != "m" or not isinstance(value, str)] + ["func", "toolong99", "M", "m.f", "1a"]


def held(bench):
    """All that a bench shows."""
    return (list(bench.modules.items()), list(bench.shelf.items()), bench.journal, bench.last)


def filled():
    """A bench of two modules, one member and a link."""
    bench = Bench()
    bench.put("m", MAIN)
    bench.put("a", "")
    bench.shelve("x", rows("export f", func("f", "tell b")))
    bench.link()
    return bench


class Deeds(unittest.TestCase):

    def test_a_new_bench(self):
        bench = Bench()
        self.assertEqual((bench.entry, bench.modules, bench.shelf, bench.last, bench.journal), ("main", {}, {}, None, ""))
        self.assertEqual(Bench("go0").entry, "go0")
        self.assertEqual(Bench(entry="x").entry, "x")
        for value in NO_NAMES:
            found = error_of(Bench, value)
            self.assertIs(found[0], BadName)
            self.assertIs(found[1], value)

    def test_put_and_shelve(self):
        bench = Bench()
        self.assertIsNone(bench.put("m", MAIN))
        self.assertIsNone(bench.shelve("m", FULL))
        self.assertIsNone(bench.put(name="b", text=""))
        self.assertIsNone(bench.shelve(name="a", text=""))
        self.assertIsNone(bench.put("m", FULL))
        self.assertIsNone(bench.shelve("m", ""))
        # What is put again keeps its place.
        self.assertEqual(list(bench.modules.items()), [("m", FULL), ("b", "")])
        self.assertEqual(list(bench.shelf.items()), [("m", ""), ("a", "")])
        main, full = MAIN.replace("\n", " / "), FULL.replace("\n", " / ")
        self.assertEqual(bench.journal, f"1 put m {main}\n2 shelve m {full}\n3 put b\n4 shelve a\n5 put m {full}\n6 shelve m\n")

    def test_wrong_names_and_texts(self):
        bench = filled()
        before = held(bench)
        for call in (bench.put, bench.shelve):
            for value in NO_NAMES:
                for text in ("", "bad", None):
                    found = error_of(call, value, text)
                    self.assertIs(found[0], BadName)
                    self.assertIs(found[1], value)
            for value in ANY_VALUES:
                if not isinstance(value, str):
                    self.assertEqual(error_of(call, "m", value), (BadModule, "m", None))
            for text, row in [("bad", 0), ("export f\n", 1), ("func f", 1), (" ", 0), ("func f\ngo 2\nend", 1), ("export f / func f", 0)]:
                self.assertEqual(error_of(call, "n", text), (BadModule, "n", row))
        self.assertEqual(held(bench), before)

    def test_drop(self):
        bench = filled()
        bench.shelve("m", "")
        self.assertIsNone(bench.drop("m"))
        self.assertEqual((list(bench.modules), list(bench.shelf)), (["a"], ["x", "m"]))
        self.assertIsNone(bench.drop(name="m"))
        self.assertEqual((list(bench.modules), list(bench.shelf)), (["a"], ["x"]))
        self.assertEqual(bench.journal.split("\n")[-4:], ["5 shelve m", "6 drop m", "7 drop m", ""])
        before = held(bench)
        for value in [*ANY_VALUES, "none"]:
            found = error_of(bench.drop, value)
            self.assertIs(found[0], UnknownName)
            self.assertIs(found[1], value)
        self.assertEqual(held(bench), before)
        # What was dropped and is put again stands at the end.
        bench.put("b", "")
        bench.drop("a")
        bench.put("a", "")
        self.assertEqual(list(bench.modules), ["b", "a"])

    def test_link(self):
        bench = Bench()
        bench.put("m", MAIN)
        bench.shelve("x", rows("export f", func("f", "tell b")))
        link = bench.link()
        self.assertEqual(link.program, Program({"m": MAIN, "x": rows("export f", func("f", "tell b"))}))
        self.assertEqual((link.size, bench.last is link, bench.journal.split("\n")[2]), (2, True, "3 link"))
        self.assertEqual((list(bench.modules), list(bench.shelf)), (["m"], ["x"]))
        self.assertEqual(link.certificate, Link(link.program).certificate)
        again = bench.link()
        self.assertEqual((again is link, bench.last is again), (False, True))

    def test_link_keeps_moments(self):
        bench = Bench()
        bench.put("m", NOTICED)
        self.assertEqual(bench.link().kept, ())
        self.assertEqual(bench.link().kept, ((("m.f", "m.g"),),))
        bench.put("n", func("unused"))
        self.assertEqual(bench.link().kept, ((("m.f", "m.g"),),))
        self.assertIs(check_smallest(bench.last.program, bench.last.certificate), True)

    def test_link_of_another_entry(self):
        bench = Bench("begin")
        bench.shelve("x", rows("export begin", func("begin", "tell a")))
        self.assertEqual(bench.link().program.entry, "x.begin")

    def test_errors_of_link(self):
        long = long_program(201)
        for entry, modules, shelf, error in [
                ("main", {}, {}, (BadName, "main")), ("f", {"m": MAIN}, {}, (BadModule, "m", 2)),
                ("main", {"m": MAIN}, {"m": "export f"}, (Clash, "m")), ("main", {"m": MAIN}, {"x": "export f"}, (BadModule, "m", 2)),
                ("main", {"m": FULL, "n": rows(*[func("f" + str(k)) for k in range(12)])}, {}, (LimitExceeded, 12)),
                ("main", {"m": rows(FULL, data("d", *"fghijkl"), *[func(name) for name in "fghijkl"])}, {}, (LimitExceeded, 6)),
                ("main", {"m": rows("export main", *[rows("func " + name[2:], *[" ".join(map(str, row)).replace("m.", "")
                                                                                for row in long.rows_of(name)], "end")
                                                     for name in long.pieces])}, {}, (LimitExceeded, 200))]:
            bench = Bench(entry)
            for name, text in modules.items():
                bench.put(name, text)
            for name, text in shelf.items():
                bench.shelve(name, text)
            before = held(bench)
            self.assertEqual(error_of(bench.link), error)
            self.assertEqual(held(bench), before)

    def test_new_dicts(self):
        bench = filled()
        before = held(bench)
        bench.modules["q"] = ""
        bench.shelf.clear()
        self.assertEqual(held(bench), before)

    def test_compact(self):
        bench = filled()
        bench.put("m", FULL)
        bench.drop("a")
        bench.put("b", "")
        bench.put("a", "")
        self.assertIsNone(bench.compact())
        full = FULL.replace("\n", " / ")
        self.assertEqual(bench.journal, f"1 put m {full}\n2 put b\n3 put a\n4 shelve x export f / func f / tell b / end\n")
        self.assertIsNone(bench.last)
        self.assertEqual(held(recover(bench.journal)), held(bench))
        bench.drop("b")
        self.assertEqual(bench.journal.split("\n")[-2], "5 drop b")
        empty = Bench()
        empty.compact()
        self.assertEqual(held(empty), held(Bench()))


class Trials(unittest.TestCase):

    def setUp(self):
        self.bench = filled()
        self.before = held(self.bench)

    def same(self):
        self.assertEqual(held(self.bench), self.before)

    def test_a_block_that_ends(self):
        with self.bench.trial() as trial:
            self.bench.put("m", FULL)
            self.assertEqual(self.bench.link().size, 1)
            self.assertIsNotNone(trial)
        self.assertEqual((self.bench.modules["m"], self.bench.last.size, self.bench.journal.count("\n")), (FULL, 1, 6))

    def test_as_gives_the_object(self):
        trial = self.bench.trial()
        with trial as given:
            self.assertIs(given, trial)
        self.assertIsNot(self.bench.trial(), self.bench.trial())

    def test_a_block_that_raises(self):
        for error in (ValueError, KeyError, KeyboardInterrupt, StopIteration):
            with self.assertRaises(error):
                with self.bench.trial():
                    self.bench.put("m", FULL)
                    self.bench.shelve("y", "")
                    self.bench.drop("a")
                    self.bench.link()
                    raise error
            self.same()
        with self.assertRaises(UnknownName):
            with self.bench.trial():
                self.bench.compact()
                self.bench.drop("none")
        self.same()

    def test_a_block_that_is_cancelled(self):
        with self.bench.trial() as trial:
            self.bench.put("m", FULL)
            self.assertIsNone(trial.cancel())
            # The deeds are there until the block ends; also those behind it are taken back.
            self.assertEqual(self.bench.modules["m"], FULL)
            self.bench.link()
            self.assertEqual(self.bench.last.size, 1)
        self.same()
        with self.bench.trial() as trial:
            self.bench.compact()
            trial.cancel()
            trial.cancel()
        self.same()

    def test_cancel_without_a_block(self):
        trial = self.bench.trial()
        self.assertIsNone(trial.cancel())
        with trial:
            self.bench.put("q", "")
        self.assertIsNone(trial.cancel())
        self.assertEqual(list(self.bench.modules), ["m", "a", "q"])

    def test_blocks_of_one_object(self):
        trial = self.bench.trial()
        with trial:
            self.bench.put("b", "")
            with trial:
                self.bench.put("c", "")
                trial.cancel()
            self.assertEqual(list(self.bench.modules), ["m", "a", "b"])
            with trial:
                self.bench.put("d", "")
        self.assertEqual(list(self.bench.modules), ["m", "a", "b", "d"])
        before = held(self.bench)
        with trial:
            self.bench.put("e", "")
            with trial:
                self.bench.put("f", "")
            trial.cancel()
            with trial:
                self.bench.put("g", "")
            self.assertEqual(list(self.bench.modules)[-3:], ["e", "f", "g"])
        self.assertEqual(held(self.bench), before)

    def test_blocks_of_several_objects(self):
        one, other = self.bench.trial(), self.bench.trial()
        with one:
            self.bench.put("b", "")
            with other:
                self.bench.put("c", "")
                one.cancel()
            self.assertEqual(list(self.bench.modules), ["m", "a", "b", "c"])
        self.same()
        with one, other:
            self.bench.put("b", "")
            other.cancel()
        self.same()
        with one:
            self.bench.put("b", "")
            with self.assertRaises(KeyError):
                with other:
                    self.bench.put("c", "")
                    raise KeyError
            self.bench.put("d", "")
        self.assertEqual(list(self.bench.modules), ["m", "a", "b", "d"])

    def test_an_inner_block_that_raises(self):
        trial = self.bench.trial()
        with self.assertRaises(KeyError):
            with trial:
                self.bench.put("b", "")
                with trial:
                    self.bench.put("c", "")
                    raise KeyError
        self.same()
        with trial:
            self.bench.put("b", "")
            try:
                with trial:
                    self.bench.put("c", "")
                    raise KeyError
            except KeyError:
                pass
        self.assertEqual(list(self.bench.modules), ["m", "a", "b"])

    def test_an_object_again(self):
        trial = self.bench.trial()
        for _ in range(3):
            with trial:
                self.bench.put("b", "")
                trial.cancel()
            self.same()

    def test_a_last_link_that_comes_back(self):
        last = self.bench.last
        with self.bench.trial() as trial:
            self.bench.put("m", NOTICED)
            self.bench.link()
            trial.cancel()
        self.assertIs(self.bench.last, last)


class Doing(unittest.TestCase):

    def setUp(self):
        self.bench = filled()
        self.before = held(self.bench)

    def names(self):
        return list(self.bench.modules)

    def test_each_kind_of_deed(self):
        for kind in (list, tuple):
            bench = filled()
            deeds = kind([("put", "b", ""), ("shelve", "y", FULL), ("drop", "a"), ("put", "m", FULL), ("link",)])
            self.assertIsNone(bench.do(deeds))
            other = filled()
            other.put("b", "")
            other.shelve("y", FULL)
            other.drop("a")
            other.put("m", FULL)
            other.link()
            self.assertEqual(held(bench)[:3], held(other)[:3])
            self.assertEqual(bench.last.size, 1)

    def test_by_an_object_of_trial(self):
        trial = self.bench.trial()
        self.assertIsNone(trial.do([("put", "b", "")]))
        self.assertIsNone(trial.do(deeds=(("put", "c", ""), ("try", [("cancel",)], True)), keep=True))
        self.assertEqual(self.names(), ["m", "a", "b", "c"])
        # A deed `cancel` of its own block, and the method for the block around it.
        with trial:
            trial.do([("put", "d", "")])
            trial.cancel()
        self.assertEqual(self.names(), ["m", "a", "b", "c"])

    def test_no_deeds(self):
        for deeds in ([], ()):
            self.bench.do(deeds)
            self.bench.trial().do(deeds, keep=False)
        self.assertEqual(held(self.bench), self.before)

    def test_keep(self):
        for value in [*ANY_VALUES, 1]:
            if value is not True:
                self.bench.do([("put", "b", "")], keep=value)
                self.bench.trial().do([("put", "b", ""), ("link",)], keep=value)
                self.assertEqual(held(self.bench), self.before)
        self.bench.do([("put", "b", "")], keep=True)
        self.assertEqual(self.names(), ["m", "a", "b"])
        with self.assertRaises(TypeError):
            self.bench.do([], True)

    def test_cancel(self):
        self.bench.do([("put", "b", ""), ("cancel",), ("put", "c", "")])
        self.assertEqual(held(self.bench), self.before)
        # The block in which it stands: not one around it.
        trial = self.bench.trial()
        with trial:
            self.bench.put("b", "")
            trial.do([("put", "c", ""), ("cancel",)])
        self.assertEqual(self.names(), ["m", "a", "b"])

    def test_try(self):
        self.bench.do([("put", "b", ""), ("try", [("put", "c", ""), ("try", (("put", "d", ""),), True)], True),
                       ("try", [("put", "e", "")], False), ("try", [("put", "f", ""), ("cancel",)], True), ("try", [], 1)])
        self.assertEqual(self.names(), ["m", "a", "b", "c", "d"])
        self.bench.do([("put", "e", ""), ("try", [("put", "f", ""), ("try", [("put", "g", "")], True)], None)])
        self.assertEqual(self.names(), ["m", "a", "b", "c", "d", "e"])
        for value in ANY_VALUES:
            if value is not True:
                self.bench.do([("try", [("put", "z", "")], value)])
        self.assertEqual(self.names(), ["m", "a", "b", "c", "d", "e"])

    def test_what_a_deed_raises(self):
        for deed, error in [(("put", 5, ""), (BadName, 5)), (("put", "b", "bad"), (BadModule, "b", 0)), (("put", "b", None), (BadModule, "b", None)),
                            (("shelve", None, ""), (BadName, None)), (("shelve", "b", " "), (BadModule, "b", 0)),
                            (("drop", "none"), (UnknownName, "none")), (("drop", ()), (UnknownName, ())),
                            (("try", [("drop", "none")], True), (UnknownName, "none")),
                            (("try", [("put", "z", ""), ("try", [("drop", "q")], False)], False), (UnknownName, "q"))]:
            for call in (self.bench.do, self.bench.trial().do):
                self.assertEqual(error_of(call, [("put", "b", ""), ("try", [("put", "c", "")], True), deed, None]), error)
                self.assertEqual(held(self.bench), self.before)
        self.assertEqual(error_of(self.bench.do, [("drop", "x"), ("link",)]), (BadModule, "m", 2))
        self.assertEqual(held(self.bench), self.before)

    def test_no_deeds_at_all(self):
        for value in ANY_VALUES:
            if not isinstance(value, (list, tuple)):
                for call in (self.bench.do, self.bench.trial().do):
                    found = error_of(call, value)
                    self.assertIs(found[0], BadValue)
                    self.assertIs(found[1], value)
                found = error_of(self.bench.do, [("put", "b", ""), ("try", value, True)])
                self.assertIs(found[0], BadValue)
                self.assertIs(found[1], value)
        self.assertEqual(held(self.bench), self.before)

    def test_values_that_are_no_deeds(self):
        wrong = [*ANY_VALUES, ("put",), ("put", "b"), ("put", "b", "", ""), ["put", "b", ""], ("shelve", "b"), ("drop",), ("drop", "m", 1),
                 ("link", 1), ("cancel", None), ("try", []), ("try",), ("try", [], True, 1), ("compact",), ("do", []), "link", ("Link",),
                 (["put"], "b", ""), (None, "b", ""), (b"link",)]
        for value in wrong:
            for deeds in ([value], (("put", "b", ""), value), [("put", "b", ""), value, None]):
                found = error_of(self.bench.do, deeds)
                self.assertIs(found[0], BadValue)
                self.assertIs(found[1], value)
            found = error_of(self.bench.do, [("try", [value], True)])
            self.assertIs(found[1], value)
        self.assertEqual(held(self.bench), self.before)

    def deep(self, many, inner=()):
        """Deeds with so many blocks in one another."""
        deeds = [*inner, ("put", "z", "")]
        for _ in range(many - 1):
            deeds = [("try", deeds, True)]
        return deeds

    def test_eight_blocks_and_nine(self):
        self.bench.do(self.deep(8))
        self.assertEqual(self.names(), ["m", "a", "z"])
        self.bench.drop("z")
        before = held(self.bench)
        for many in (9, 10, 30):
            found = error_of(self.bench.do, self.deep(many))
            # The deed that would open the ninth block.
            self.assertEqual(found, (BadValue, ("try", self.deep(many - 8), True)))
            self.assertEqual(held(self.bench), before)
        # Deeds that are no list and no tuple are told ahead of the number of blocks.
        self.assertEqual(error_of(self.bench.do, self.deep(8, [("try", 5, True)])), (BadValue, 5))
        self.assertEqual(error_of(self.bench.do, self.deep(8, [("try", [], True)])), (BadValue, ("try", [], True)))

    def test_blocks_that_are_open_already(self):
        trial = self.bench.trial()
        with trial, trial, trial:
            trial.do(self.deep(5))
            self.assertEqual(error_of(trial.do, self.deep(6)), (BadValue, ("try", [("put", "z", "")], True)))
            # Blocks of another object do not count.
            self.bench.do(self.deep(8))
            with self.bench.trial():
                self.assertIsNone(error_of(trial.do, self.deep(5)))
        trial.do(self.deep(8))

    def test_a_ring_of_deeds(self):
        deeds = [("put", "b", "")]
        deeds.append(("try", deeds, True))
        found = error_of(self.bench.do, deeds)
        self.assertIs(found[0], BadValue)
        self.assertIs(found[1], deeds[1])
        self.assertEqual(held(self.bench), self.before)

    def test_deeds_are_unchanged(self):
        deeds = [("put", "b", ""), ("try", [("put", "c", ""), ("cancel",)], True), ("link",)]
        self.bench.do(deeds)
        self.assertEqual(deeds, [("put", "b", ""), ("try", [("put", "c", ""), ("cancel",)], True), ("link",)])

    def test_at_random(self):
        pick = random.Random(3)
        for _ in range(200):
            bench = filled()
            deeds = self.some_deeds(pick, 3)
            wanted = self.slow_do(bench.modules, deeds)
            bench.do(deeds)
            self.assertEqual(bench.modules, wanted)

    def some_deeds(self, pick, depth):
        deeds = []
        for _ in range(pick.randint(0, 4)):
            kinds = ["put", "put", "cancel"] + ["try"] * 2 * (depth > 0)
            kind = pick.choice(kinds)
            deeds.append({"put": ("put", pick.choice("abcdm"), pick.choice(["", FULL, MAIN])), "cancel": ("cancel",)}.get(kind)
                         or ("try", self.some_deeds(pick, depth - 1), pick.choice([True, True, False])))
        return deeds

    def slow_do(self, modules, deeds, keep=True):
        now = dict(modules)
        for deed in deeds:
            if deed[0] == "put":
                now[deed[1]] = deed[2]
            elif deed[0] == "try":
                now = self.slow_do(now, deed[1], deed[2])
        return dict(modules) if ("cancel",) in deeds or keep is not True else now


class Recovering(unittest.TestCase):

    def same(self, one, other):
        self.assertEqual(held(one)[:3], held(other)[:3])
        self.assertEqual(one.entry, other.entry)
        self.assertEqual(one.last is None, other.last is None)
        if one.last is not None:
            self.assertEqual((one.last.program, one.last.size, one.last.kept, one.last.certificate),
                             (other.last.program, other.last.size, other.last.kept, other.last.certificate))

    def bench(self):
        bench = filled()
        bench.put("m", NOTICED)
        bench.link()
        bench.drop("a")
        bench.shelve("y", "")
        bench.link()
        bench.drop("y")
        return bench

    def test_whole_journals(self):
        bench = self.bench()
        self.same(recover(bench.journal), bench)
        self.same(recover(""), Bench())
        bench = Bench("go0")
        bench.put("m", rows("export go0", func("go0")))
        bench.link()
        self.same(recover(bench.journal, "go0"), bench)
        self.same(recover(text=bench.journal, entry="go0"), bench)
        self.assertEqual(error_of(recover, bench.journal), (BadJournal, 1))

    def test_torn_at_each_place(self):
        bench = self.bench()
        whole = bench.journal
        for place in range(len(whole)):
            found = recover(whole[:place])
            kept = whole[:place].rpartition("\n")[0]
            self.assertEqual(found.journal, kept + "\n" * (kept != ""))
        # What is torn may be anything.
        for end in ["9 put m", "bad", "11", " ", "0 link", "\x00"]:
            self.assertEqual(recover(whole + end).journal, whole)

    def test_going_on(self):
        bench = recover(self.bench().journal[:-1])
        bench.drop("y")
        self.same(bench, self.bench())

    def test_wrong_rows(self):
        whole = self.bench().journal
        many = whole.count("\n")
        for row in ["", " ", "bad", f"{many} link", f"{many + 2} link", f"0{many + 1} link", f"+{many + 1} link", f"{many + 1}", f"{many + 1} ",
                    f"{many + 1}  link", f"{many + 1} link ", f" {many + 1} link", f"{many + 1} link x", f"{many + 1} Link",
                    f"{many + 1} drop", f"{many + 1} drop ", f"{many + 1} drop none", f"{many + 1} drop m ", f"{many + 1} drop m x",
                    f"{many + 1} put", f"{many + 1} put ", f"{many + 1} put b ", f"{many + 1} put  b", f"{many + 1} put M", f"{many + 1} put m /",
                    f"{many + 1} put m  / ", f"{many + 1} put m bad", f"{many + 1} put m export f/ func f / end",
                    f"{many + 1} put m export f / func f /  end", f"{many + 1} put m export f / ", f"{many + 1} put m export f /",
                    f"{many + 1} shelve", f"{many + 1} shelve func", f"{many + 1} shelve x export", f"{many + 1} shelve x  export f",
                    f"{many + 1} cancel", f"{many + 1} try", f"{many + 1} compact", f"{many + 1}\tlink", "\u0661 link"]:
            self.assertEqual(error_of(recover, whole + row + "\n"), (BadJournal, many), row)
            self.assertEqual(error_of(recover, whole + row + "\nbad\n"), (BadJournal, many), row)
            self.assertEqual(recover(whole + row).journal, whole)
        self.assertEqual(error_of(recover, "\n" + whole), (BadJournal, 0))
        self.assertEqual(error_of(recover, "1 link\n"), (BadJournal, 0))
        self.assertEqual(error_of(recover, "2 put m\n"), (BadJournal, 0))
        self.assertEqual(error_of(recover, "0 put m\n1 put n\n"), (BadJournal, 0))
        self.assertEqual(error_of(recover, "1 put m\n1 put n\n"), (BadJournal, 1))
        self.assertEqual(recover("1 put m\n2 put n\n").journal, "1 put m\n2 put n\n")

    def test_ten_rows(self):
        text = "".join([f"{number} put m{number}\n" for number in range(1, 121)])
        bench = recover(text)
        self.assertEqual((bench.journal, len(bench.modules)), (text, 120))

    def test_no_texts(self):
        for value in ANY_VALUES:
            if not isinstance(value, str):
                self.assertEqual(error_of(recover, value), (BadJournal, None))

    def test_the_entry_first(self):
        for value in NO_NAMES:
            for text in ("", "bad\n", None):
                found = error_of(recover, text, value)
                self.assertIs(found[0], BadName)
                self.assertIs(found[1], value)

    def test_trials_leave_nothing_in_the_journal(self):
        bench = filled()
        text = bench.journal
        bench.do([("put", "b", ""), ("link",)], keep=False)
        with bench.trial() as trial:
            bench.drop("m")
            trial.cancel()
        self.assertEqual(bench.journal, text)
        bench.do([("put", "b", ""), ("try", [("drop", "b")], False), ("try", [("link",)], True)])
        self.assertEqual(bench.journal, text + "5 put b\n6 link\n")
        self.same(recover(bench.journal), bench)

    def test_the_example(self):
        bench = Bench()
        self.assertIsNone(bench.put("m", "export main\nfunc main\ntell a\nend"))
        self.assertEqual(bench.link().size, 1)
        self.assertEqual(bench.journal, "1 put m export main / func main / tell a / end\n2 link\n")
        self.assertEqual(recover(bench.journal[:-3]).journal, "1 put m export main / func main / tell a / end\n")


if __name__ == "__main__":
    unittest.main()
