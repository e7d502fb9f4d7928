"""The interface: names, files, parameters, and that nothing that is passed is changed."""

import copy
import importlib
import inspect
import unittest

from helpers import func, program_of
from foldsame.checker import check_moment, check_size, check_smallest, check_table, check_together
from foldsame.anew import Anew, Link, leading
from foldsame.console import Console
from foldsame.foldings import Folding, foldings, partitions
from foldsame.images import Image
from foldsame.journal import Bench
from foldsame.likeness import Likeness, check_likeness, check_path, is_partition
from foldsame.machine import at, begin, event_of, record
from foldsame.needed import check_states, check_unused, states, stripped
from foldsame.noticing import table
from foldsame.questions import Names
from foldsame.replacing import Patch, carry, check_sure, fits, go_alike, resume
from foldsame.smallest import smallest_paper
from foldsame.stacks import sources, telling

FUNCTIONS = {
    "texts": ["is_name(value)", "parse_module(text)"],
    "machine": ["begin(code)", "event_of(code, state)", "at(code, moment)", "record(code, choices, most=100)",
                "records(code, most)"],
    "likeness": ["is_partition(pieces, value)", "least_bodies(program, addresses)",
                 "check_path(program, addresses, one, other, value, *, alone=())",
                 "check_likeness(program, addresses, value, *, alone=())"],
    "foldings": ["partitions(names)", "plain(program)", "foldings(program)"],
    "images": ["load(text)"],
    "noticing": ["unlike_moment(one, other, first, second)", "together(one, other, first, second)",
                 "notice(program, image)", "table(program, image)", "uses(code)", "size(image)"],
    "checker": ["check_together(one, other, first, value)", "check_table(program, image, value)",
                "check_moment(program, image, value)", "check_size(image, value, least)", "check_smallest(program, value)"],
    "smallest": ["smallest(program)", "smallest_paper(program)"],
    "needed": ["use_moments(code)", "states(code)", "check_states(code, value)",
               "check_unused(code, value, name, *, address=False)", "stripped(code)"],
    "stacks": ["sources(program, image, stack)", "unique(program, image)", "tells(program, image, name)",
               "telling(program, addresses, names)"],
    "replacing": ["carry(patch, state)", "go_alike(code, one, other)", "fits(program, image, state)",
                  "unsure(program, image, patch)", "resume(program, image, patch, state)", "replaceable(program, patch)",
                  "sure_paper(program, image, patch)", "check_sure(program, image, patch, value)"],
    "archives": ["gather(modules, archives, entry='main')"],
    "anew": ["leading(program, names)"],
    "journal": ["recover(text, entry='main')"],
    "compared": ["compared(program)", "compare_moment(program, one, other)", "is_sure(folding)", "fewest(program)"],
}
CLASSES = {
    ("programs", "Program"): ["__init__(self, modules, entry='main')", "kind_of(self, name)", "rows_of(self, name)",
                              "meaning(self, module, name)", "__contains__", "__len__", "__eq__"],
    ("likeness", "Likeness"): ["__init__(self, program, addresses, *, alone=())", "path(self, one, other)", "paper(self)",
                               "__contains__", "__len__", "__iter__"],
    ("foldings", "Folding"): ["__init__(self, program, addresses, bodies)", "address_of(self, name)", "body_of(self, name)",
                              "within(self, other)", "__eq__"],
    ("images", "Linked"): ["kind_of(self, name)", "rows_of(self, name)", "home_of(self, name)", "__contains__", "__len__",
                           "__iter__", "__str__", "__eq__"],
    ("images", "Image"): ["__init__(self, folding)"],
    ("needed", "Stripped"): ["__init__(self, code, bodies, addresses)", "keeps(self, body, address=None)"],
    ("replacing", "Patch"): ["__init__(self, program, name, text)", "kind_of(self, name)", "rows_of(self, name)", "__contains__",
                             "__len__"],
    ("anew", "Anew"): ["__init__(self, old, program, addresses, *, alone=())"],
    ("anew", "Link"): ["__init__(self, program, *, old=None)"],
    ("journal", "Bench"): ["__init__(self, entry='main')", "put(self, name, text)", "shelve(self, name, text)", "drop(self, name)",
                           "link(self)", "compact(self)", "trial(self)", "do(self, deeds, *, keep=True)"],
    ("journal", "Trial"): ["cancel(self)", "do(self, deeds, *, keep=True)", "__enter__", "__exit__"],
    ("questions", "Names"): ["__init__(self, program, names)", "__and__(self, other)", "__or__(self, other)", "__sub__(self, other)",
                             "within(self, other)", "__contains__", "__len__", "__iter__", "__eq__"],
    ("questions", "Question"): ["__init__(self, text)", "__call__(self, link)", "__eq__"],
    ("console", "Console"): ["__init__(self, entry='main')", "__call__(self, line)"],
}


def module_of(name):
    return importlib.import_module("foldsame." + name)


class Interface(unittest.TestCase):

    def test_functions(self):
        for name, listed in FUNCTIONS.items():
            for wanted in listed:
                found = getattr(module_of(name), wanted.split("(")[0])
                self.assertEqual(found.__name__ + str(inspect.signature(found)), wanted)
                self.assertEqual(found.__module__, "foldsame." + name)

    def test_classes(self):
        for (name, label), listed in CLASSES.items():
            found = getattr(module_of(name), label)
            self.assertEqual(found.__module__, "foldsame." + name)
            for wanted in listed:
                method = vars(found)[wanted.split("(")[0]]
                if "(" in wanted:
                    self.assertEqual(method.__name__ + str(inspect.signature(method)), wanted)

    def test_properties(self):
        for name, label, listed in [("likeness", "Likeness", ["holds"]), ("journal", "Bench", ["modules", "shelf", "last", "journal"]),
                                    ("questions", "Question", ["text"]), ("anew", "Link", ["certificate"])]:
            for wanted in listed:
                self.assertIsInstance(vars(getattr(module_of(name), label))[wanted], property)

    def test_attributes(self):
        program = Unchanged.PROGRAM
        link = Link(program)
        likeness = Likeness(program, (("m.f",), ("m.g",)))
        for made, listed in [
                (program, ["pieces", "taken", "entry"]), (likeness, ["program", "addresses", "alone", "bodies"]),
                (Anew(likeness, program, likeness.addresses), ["program", "addresses", "alone", "bodies", "touched"]),
                (link.folding, ["program", "addresses", "bodies"]), (link.image, ["entry", "bodies", "taken", "folding"]),
                (stripped(program), ["bodies", "addresses", "entry"]), (link, ["program", "folding", "image", "size", "kept"]),
                (Patch(program, "m.f", ""), ["program", "name", "old", "entry", "pieces", "taken"]), (Bench(), ["entry"]),
                (Names(program, ()), ["program", "names"]), (Console(), ["bench"])]:
            for wanted in listed:
                self.assertIn(wanted, vars(made))

    def test_records_and_foldings_are_generators(self):
        self.assertTrue(inspect.isgeneratorfunction(module_of("machine").records))
        self.assertTrue(inspect.isgeneratorfunction(foldings))


class Unchanged(unittest.TestCase):

    PROGRAM = program_of(func("main", "addr a f", "addr b g", "callr a", "choose 0"), func("f", "tell d"), func("g", "tell d"))

    def check(self, call, *given):
        copies = copy.deepcopy(given)
        call(*given)
        self.assertEqual(given, copies)

    def test_values_of_papers(self):
        program = self.PROGRAM
        image = Image(list(foldings(program))[0])
        pairs, paper = table(program, image), smallest_paper(program)
        moment = ((0,), 2)
        self.check(lambda *given: check_table(program, image, *given), pairs)
        self.check(lambda *given: check_together(program, image, *given), pairs[:1], pairs)
        self.check(lambda *given: check_moment(program, image, *given), moment)
        self.check(lambda *given: check_size(image, *given, 3), [moment, ((), 0)])
        self.check(lambda *given: check_smallest(program, *given), paper)
        self.check(lambda *given: check_smallest(program, *given), (paper[0], paper[1], [None]))
        self.check(lambda *given: check_likeness(program, (("m.f", "m.g"),), *given), ([], [[]]))
        self.check(lambda *given: check_path(program, (("m.f", "m.g"),), "m.f", "m.g", *given), [0])
        self.check(is_partition, ("m.f",), [["m.f"]])
        self.check(partitions, ("m.f", "m.g"))
        self.check(lambda *given: at(program, *given), moment)
        self.check(lambda *given: record(program, *given), [0, 1])
        self.check(lambda *given: event_of(program, *given), begin(program))

    def test_values_of_later_papers(self):
        program = self.PROGRAM
        image = Image(list(foldings(program))[0])
        patch = Patch(program, "m.f", "tell d\ntell c")
        state, value = begin(image), states(program)
        self.check(lambda *given: check_states(program, *given), value)
        self.check(lambda *given: check_unused(program, *given), value, "m.f")
        self.check(lambda *given: carry(patch, *given), state)
        self.check(lambda *given: go_alike(patch, *given), begin(patch), begin(patch))
        self.check(lambda *given: fits(program, image, *given), state)
        self.check(lambda *given: resume(program, image, patch, *given), state)
        self.check(lambda *given: check_sure(program, image, patch, *given), (table(program, image), [None, []]))
        self.check(lambda *given: sources(program, image, *given), state[0])
        self.check(lambda *given: telling(program, *given), (("m.f", "m.g"),), ("m.f",))
        self.check(lambda *given: leading(program, *given), ["m.g", "m.f"])
        self.check(lambda *given: Names(program, *given), ["m.g", "m.f"])
        self.check(lambda *given: Bench().do(*given), [("put", "m", ""), ("try", [("put", "n", "")], False)])
        states(program).append(None)
        self.assertEqual((len(states(program)), states(program) is states(program)), (len(value), False))

    def test_what_is_returned_is_not_kept(self):
        program = self.PROGRAM
        folding = Folding(program, (("m.f", "m.g"),), (("m.f", "m.g"), ("m.main",)))
        image = Image(folding)
        text = str(image)
        for pairs in (table(program, image), smallest_paper(program)[1], event_of(image, begin(image))[2]):
            pairs.append(None)
        self.assertEqual((str(image), len(table(program, image))), (text, 4))


if __name__ == "__main__":
    unittest.main()
