"""Sets of names, the texts of questions, and their answers."""

import itertools
import random
import unittest

from helpers import ANY_VALUES, NO_FULL_NAMES, Odd, branching_programs, data, error_of, func, long_program, program_of
from foldsame.anew import Link, leading
from foldsame.errors import BadQuestion, UnknownName
from foldsame.noticing import uses
from foldsame.programs import Program
from foldsame.questions import Names, Question

PROGRAM = Program({
    "m": "export main\nfunc main\ncall f\naddr a g\naddr b h\ncallr a\nread c d 0\nend\nfunc f\ntell c\nend\nfunc g\ntell c\nend\n"
         "func h\ntell c\nend\ndata d\n1\ng\nend\ndata e\n1\nh\nend",
    "n": "func i\ncall j\nend\nfunc j\ncall i\nend\nfunc k\naddr a j\nend"})
LINK = Link(PROGRAM)
SIGNS = {"&": set.intersection, "|": set.union, "-": set.difference}


def names_of(text, link=LINK):
    return Question(text)(link).names


def place_of(text):
    """The place of a BadQuestion, or that there is none."""
    found = error_of(Question, text)
    return found if found is None else found[1]


def slow_text(tree):
    """The text of a tree with as few parentheses as there can be: fewer ones are read as another tree."""
    if isinstance(tree, str):
        return tree
    if len(tree) == 2:
        return f"{tree[0]}({slow_text(tree[1])})"
    one, sign, other = tree
    left, right = slow_text(one), slow_text(other)
    if sign == "&" and isinstance(one, tuple) and len(one) == 3 and one[1] != "&":
        left = f"({left})"
    if isinstance(other, tuple) and len(other) == 3 and (sign == "&" or other[1] != "&"):
        right = f"({right})"
    return f"{left} {sign} {right}"


def slow_names(tree, link):
    """The answer of a tree, as the document says it."""
    program = link.program
    if isinstance(tree, str):
        return {"all": lambda: set(program.pieces), "funcs": lambda: {one for one in program.pieces if program.kind_of(one) == "func"},
                "data": lambda: {one for one in program.pieces if program.kind_of(one) == "data"}, "taken": lambda: set(program.taken),
                "used": lambda: set(uses(program)[0]), "kept": lambda: set(uses(link.image)[0])}.get(tree, lambda: {tree})()
    if len(tree) == 3:
        return SIGNS[tree[1]](slow_names(tree[0], link), slow_names(tree[2], link))
    names = slow_names(tree[1], link)
    found = set()
    if tree[0] in ("bodies", "mates"):
        for part in {"bodies": link.folding.bodies, "mates": link.folding.addresses}[tree[0]]:
            found |= set(part) if set(part) & names else set()
    if tree[0] in ("calls", "takes"):
        for name in names:
            for row in program.rows_of(name):
                if program.kind_of(name) == "func" and tree[0] == "calls" and row[0] in ("call", "read"):
                    found.add(row[{"call": 1, "read": 2}[row[0]]])
                elif program.kind_of(name) == "func" and tree[0] == "takes" and row[0] == "addr":
                    found.add(row[2])
                elif program.kind_of(name) == "data" and tree[0] == "takes" and isinstance(row, str):
                    found.add(row)
    return set(leading(program, sorted(names))) if tree[0] == "leads" else found


def some_tree(pick, depth, words):
    """A tree at random."""
    kind = pick.random() if depth else 0
    if kind < 0.3:
        return pick.choice(words)
    if kind < 0.5:
        return (pick.choice(["bodies", "mates", "calls", "takes", "leads"]), some_tree(pick, depth - 1, words))
    return (some_tree(pick, depth - 1, words), pick.choice("&|-"), some_tree(pick, depth - 1, words))


def some_text(pick, tree, depth=0):
    """A text of a tree, with more spaces and parentheses than it needs."""
    space = pick.choice(["", "", " ", "  "])
    if isinstance(tree, str):
        text = tree
    elif len(tree) == 2:
        text = f"{tree[0]}{space}({some_text(pick, tree[1])})"
    else:
        sides = []
        for place in (0, 2):
            side, inner = some_text(pick, tree[place]), tree[place]
            binds = isinstance(inner, tuple) and len(inner) == 3 and (tree[1] == "&" or inner[1] != "&")
            if isinstance(inner, tuple) and len(inner) == 3 and place == 0:
                binds = tree[1] == "&" and inner[1] != "&"
            sides.append(f"({side})" if binds or pick.random() < 0.2 else side)
        text = f"{sides[0]}{space}{tree[1]}{pick.choice(['', ' '])}{sides[1]}"
    return pick.choice(["", "", " "]) + text + pick.choice(["", "", " "])


class Sets(unittest.TestCase):

    def test_making(self):
        for given in [("m.g", "m.f", "m.g"), ["m.f", "m.g"], ["m.g"] * 3 + ["m.f"]]:
            names = Names(PROGRAM, given)
            self.assertEqual((names.program, names.names, len(names), list(names)), (PROGRAM, ("m.f", "m.g"), 2, ["m.f", "m.g"]))
        self.assertEqual((Names(PROGRAM, ()).names, len(Names(PROGRAM, []))), ((), 0))
        self.assertEqual(Names(program=PROGRAM, names=("n.i",)).names, ("n.i",))

    def test_unknown_names(self):
        for value in [value for value in [*NO_FULL_NAMES, *ANY_VALUES] if value != "m.f" or isinstance(value, Odd)]:
            for given in ([value], ("m.f", value), ["m.f", value, "m.none"], (value, None)):
                found = error_of(Names, PROGRAM, given)
                self.assertIs(found[0], UnknownName)
                self.assertIs(found[1], value)

    def test_operators(self):
        one, other = Names(PROGRAM, ("m.f", "m.g", "n.i")), Names(PROGRAM, ("n.i", "m.h", "m.g"))
        self.assertEqual([(one & other).names, (one | other).names, (one - other).names, (other - one).names],
                         [("m.g", "n.i"), ("m.f", "m.g", "m.h", "n.i"), ("m.f",), ("m.h",)])
        self.assertEqual((one.names, other.names), (("m.f", "m.g", "n.i"), ("m.g", "m.h", "n.i")))
        self.assertIsInstance(one & other, Names)
        self.assertEqual(((one - one).names, (one & one), (one | one).program), ((), one, PROGRAM))
        # Programs that are equal are enough.
        same = Names(Program({"m": "export main\nfunc main\nend\nfunc f\nend"}), ("m.f",))
        again = Names(Program({"m": "func f\nend\nfunc main\nend\nexport main"}), ("m.main",))
        self.assertEqual((same | again).names, ("m.f", "m.main"))

    def test_within_and_in(self):
        one, other = Names(PROGRAM, ("m.f",)), Names(PROGRAM, ("m.f", "m.g"))
        self.assertEqual([one.within(other), other.within(one), one.within(one), Names(PROGRAM, ()).within(one)], [True, False, True, True])
        for value in [value for value in [*ANY_VALUES, *NO_FULL_NAMES, "m.g", "f"] if value != "m.f" or isinstance(value, Odd)]:
            self.assertIs(value in one, False)
        self.assertIs("m.f" in one, True)

    def test_equality(self):
        one = Names(PROGRAM, ("m.f", "m.g"))
        self.assertEqual(one, Names(PROGRAM, ["m.g", "m.f", "m.f"]))
        self.assertIs(one != Names(PROGRAM, ["m.g", "m.f"]), False)
        other = program_of(func("main"), func("f"), func("g"))
        for value in [Names(PROGRAM, ("m.f",)), Names(other, ("m.f", "m.g")), ("m.f", "m.g"), None, 5, "m.f"]:
            self.assertIs(one == value, False)
            self.assertIs(one != value, True)

    def test_lists_are_not_kept(self):
        given = ["m.g", "m.f"]
        names = Names(PROGRAM, given)
        given.append(None)
        self.assertEqual((names.names, given), (("m.f", "m.g"), ["m.g", "m.f", None]))


class Texts(unittest.TestCase):

    def test_texts(self):
        for text, wanted in [
                ("all", "all"), ("  all  ", "all"), ("((all))", "all"), ("( ( m.f ) )", "m.f"), ("bodies(all)", "bodies(all)"),
                ("bodies ( (all) )", "bodies(all)"), ("all&all", "all & all"), ("all|all-all", "all | all - all"),
                ("(all|all)-all", "all | all - all"), ("all|(all-all)", "all | (all - all)"), ("all-(all|all)", "all - (all | all)"),
                ("all-(all-all)", "all - (all - all)"), ("all|(all|all)", "all | (all | all)"), ("(all|all)|all", "all | all | all"),
                ("all&(all&all)", "all & (all & all)"), ("(all&all)&all", "all & all & all"), ("(all&all)|all", "all & all | all"),
                ("all|(all&all)", "all | all & all"), ("(all|all)&all", "(all | all) & all"), ("all&(all-all)", "all & (all - all)"),
                ("(bodies(all))&(m.f)", "bodies(all) & m.f"), ("leads((all-m.f))", "leads(all - m.f)"),
                ("(all-used)&(kept|m.f)&taken", "(all - used) & (kept | m.f) & taken"), ("x.y1-a.b", "x.y1 - a.b"),
                ("calls(takes(mates(all)))", "calls(takes(mates(all)))"), ("(all)-leads( m.f )", "all - leads(m.f)")]:
            self.assertEqual(Question(text).text, wanted)
            self.assertEqual(Question(wanted).text, wanted)
            self.assertEqual(Question(text), Question(wanted))

    def test_equality(self):
        self.assertIs(Question("all|all") == Question(" all | (all)"), True)
        self.assertIs(Question("all|all") != Question("all | all"), False)
        for value in [Question("all"), Question("all & all"), "all | all", None]:
            self.assertIs(Question("all|all") == value, False)

    def test_the_text_is_a_property(self):
        self.assertIsInstance(vars(Question)["text"], property)
        with self.assertRaises(AttributeError):
            Question("all").text = ""

    def test_at_random(self):
        pick = random.Random(17)
        for _ in range(400):
            tree = some_tree(pick, 4, ["all", "used", "m.f", "x.y"])
            text = some_text(pick, tree)
            if len(text) > 200 or place_of(text) is not None:
                # Only what is too long, or has too many parentheses open, cannot be read.
                depth = list(itertools.accumulate([{"(": 1, ")": -1}.get(sign, 0) for sign in text]))
                self.assertTrue(len(text) > 200 or max(depth) > 8, text)
                continue
            self.assertEqual(Question(text).text, slow_text(tree))

    def test_no_texts(self):
        for value in [value for value in ANY_VALUES if not isinstance(value, str)] + ["\n", "all\n", "all\t", "\x7f", "\x1f", "all \u00e9", "a\x00",
                                                                                   "all\n" * 100]:
            self.assertEqual(error_of(Question, value), (BadQuestion, None))

    def test_200_characters_and_201(self):
        for text in ["all" + "|all" * 49, "all" + "|all" * 49 + " ", "x.y" + "&m.f" * 49 + " "]:
            self.assertIn(len(text), (199, 200))
            self.assertIsNone(place_of(text))
        self.assertIsNone(place_of(" " * 197 + "all"))
        for text in [" " * 198 + "all", "all" + " " * 198, "x" * 201, " " * 201, "all" * 70, ")" * 300]:
            self.assertEqual(error_of(Question, text), (BadQuestion, 200))
        self.assertEqual(place_of("x" * 200), 0)
        self.assertEqual(place_of(" " * 200), 200)

    def test_eight_open_parentheses_and_nine(self):
        for road in ("", "bodies", "leads "):
            self.assertIsNone(place_of((road + "(") * 8 + "all" + ")" * 8))
            self.assertEqual(place_of((road + "(") * 9 + "all" + ")" * 9), len((road + "(") * 9) - 1)
        self.assertIsNone(place_of("(" * 8 + "all" + ")" * 8 + "&" + "(" * 8 + "all" + ")" * 8))
        self.assertIsNone(place_of("(" * 7 + "(all)-(all)&mates(all)" + ")" * 7))
        self.assertEqual(place_of("(" * 7 + "(all)-((all)&mates(all)" + ")" * 7), 14)
        self.assertEqual(place_of("(" * 8 + "all&bodies (all)"), 19)
        self.assertEqual(place_of("(" * 8 + "all&bodies &"), 19)

    def test_places(self):
        for text, place in [
                ("", 0), ("   ", 3), ("all all", 4), ("all  m.f", 5), ("allx", 0), ("all.x", None), ("al", 0), (" al ", 1), ("all&", 4), ("all& ", 5),
                ("all&&all", 4), ("&all", 0), ("all|-all", 4), ("-", 0), (")", 0), ("()", 1), ("(", 1), ("( ", 2), ("(all", 4), ("(all ", 5),
                ("(all))", 5), ("all)", 3), ("all(all)", 3), ("m.f(all)", 3), ("bodies", 6), ("bodies ", 7), ("bodies all", 7), ("bodies&all", 6),
                ("bodies(", 7), ("bodies()", 7), ("bodies)", 6), ("(bodies", 7), ("all-mates", 9), ("all mates(all)", 4), ("(all)(all)", 5),
                ("all(", 3), ("all%", 3), ("%", 0), ("al%", 0), ("all&A", 4), ("allA", 3), ("A", 0), ("m.", 0), (".f", 0), ("m.f.g", 0), ("m..f", 0),
                (".", 0), ("m", 0), ("f1", 0), ("1m.f", 0), ("m.1f", 0), ("m.f1", None), ("m.data", 0), ("data.m", 0), ("m.end", 0), ("set.m", 0),
                ("m.toolong99", 0), ("toolong9.m", None), ("m.all", None), ("all.all", None), ("m.bodies", None), ("bodies.m(all)", 8), ("export", 0),
                ("data", None), ("func", 0), ("funcs", None), ("m.f|", 4), ("all | used - m.f & ", 19), ("leads(m.f,m.g)", 9), ("m.f m.g", 4),
                ("all+all", 3), ("all ~", 4), ("all \"", 4), ("m .f", 0), ("m.f .g", 4), ("all & (used | kept", 18), ("all & (used | kept))", 19),
                ("takes(calls(m.f)", 16), ("((all) & used", 13), ("all - () ", 7), ("all_x", 3), ("none", 0), ("all&none|x", 4)]:
            self.assertEqual(place_of(text), place, text)

    def test_the_first_place(self):
        """No question begins with what stands up to the place, and one does with what stands ahead of it."""
        pick = random.Random(23)
        parts = ["all", "m.f", "bodies", "(", ")", "&", "|", "-", " ", "al", "calls", "x", "used"]
        for _ in range(600):
            text = "".join([pick.choice(parts) for _ in range(pick.randint(1, 6))])
            place = place_of(text)
            if place is None:
                continue
            if place == len(text):
                # It ends too early: something behind it makes it right.
                ends = ["".join(end) for many in range(1, 4) for end in itertools.product(["all", "(all)", ")", "))", ")))"], repeat=many)]
                self.assertTrue(any(place_of(text + end) is None for end in ends), text)
            else:
                self.assertIn(place_of(text[:place]), (None, place), text)


class Answers(unittest.TestCase):

    def test_words(self):
        for text, wanted in [
                ("all", PROGRAM.pieces), ("funcs", ("m.f", "m.g", "m.h", "m.main", "n.i", "n.j", "n.k")), ("data", ("m.d", "m.e")),
                ("taken", ("m.g", "m.h", "n.j")), ("used", ("m.d", "m.f", "m.g", "m.main")), ("kept", ("m.d", "m.f", "m.main")), ("m.e", ("m.e",))]:
            self.assertEqual(names_of(text), wanted, text)
        self.assertEqual(LINK.folding.addresses, (("m.g", "m.h"), ("n.j",)))

    def test_roads(self):
        for text, wanted in [
                ("bodies(m.g)", ("m.f", "m.g", "m.h")), ("bodies(n.i)", ("n.i", "n.j")), ("bodies(m.e|m.main)", ("m.d", "m.e", "m.main")),
                ("mates(m.g)", ("m.g", "m.h")), ("mates(m.f)", ()), ("mates(all)", ("m.g", "m.h", "n.j")),
                ("calls(m.main)", ("m.d", "m.f")), ("calls(m.f|m.d)", ()), ("calls(all)", ("m.d", "m.f", "n.i", "n.j")),
                ("takes(m.main)", ("m.g", "m.h")), ("takes(m.d)", ("m.g",)), ("takes(all)", ("m.g", "m.h", "n.j")), ("takes(n.i)", ()),
                ("leads(m.f)", ("m.f", "m.main")), ("leads(n.i)", ("n.i", "n.j")), ("leads(m.d|m.e)", ("m.d", "m.e", "m.main")),
                ("leads(m.d&m.e)", ()), ("bodies(takes(m.d))", ("m.f", "m.g", "m.h"))]:
            self.assertEqual(names_of(text), wanted, text)

    def test_signs(self):
        for text, wanted in [
                ("funcs&taken", ("m.g", "m.h", "n.j")), ("data|m.f", ("m.d", "m.e", "m.f")), ("taken-m.g", ("m.h", "n.j")),
                ("m.f|m.g&m.h", ("m.f",)), ("(m.f|m.g)&m.g", ("m.g",)), ("taken-m.g-m.h", ("n.j",)), ("taken-(m.g-m.h)", ("m.h", "n.j")),
                ("taken-m.g|m.g", ("m.g", "m.h", "n.j")), ("taken-(m.g|m.g)", ("m.h", "n.j")), ("m.f&all-m.f", ())]:
            self.assertEqual(names_of(text), wanted, text)

    def test_the_kind_of_answer(self):
        found = Question("m.g|m.f")(LINK)
        self.assertIsInstance(found, Names)
        self.assertEqual((found, found.program), (Names(PROGRAM, ("m.f", "m.g")), PROGRAM))
        self.assertEqual(Question("all")(link=LINK).names, PROGRAM.pieces)

    def test_unknown_names(self):
        for text, name in [("m.none", "m.none"), ("m.f|x.y", "x.y"), ("z.z-(b.b&a.a)", "z.z"), ("bodies(leads(q.q))-b.b", "q.q"),
                           ("m.f & m.g | m.h - x.y & a.a", "x.y"), ("m.f.old", None), ("m.all", "m.all"), ("all&(m.f-m.q)|m.p", "m.q")]:
            if name is None:
                self.assertEqual(place_of(text), 0)
            else:
                self.assertEqual(error_of(Question(text), LINK), (UnknownName, name))
        # Of another program the same question has another answer.
        other = Link(program_of(func("main"), func("none")))
        self.assertEqual(names_of("m.none", other), ("m.none",))
        self.assertEqual(error_of(Question("m.f"), other), (UnknownName, "m.f"))

    def test_at_the_limit(self):
        link = Link(long_program(200))
        self.assertEqual((names_of("used", link), names_of("kept", link)), (("m.long", "m.main", "m.rest"), ("m.long", "m.main", "m.rest")))

    def test_at_random(self):
        pick = random.Random(29)
        for program in branching_programs(25, 6, start=1500):
            link = Link(program)
            for _ in range(15):
                tree = some_tree(pick, 3, ["all", "funcs", "data", "taken", "used", "kept", *program.pieces])
                text = some_text(pick, tree)
                if place_of(text) is None:
                    self.assertEqual(names_of(text, link), tuple(sorted(slow_names(tree, link))), text)

    def test_the_example(self):
        text = "export main\nfunc main\ncall f\nend\nfunc f\ntell a\nend\nfunc g\ntell a\nend"
        link = Link(Program({"m": text}))
        self.assertEqual((Question("(all)-leads( m.f )").text, Question("used | kept")(link).names), ("all - leads(m.f)", ("m.f", "m.main")))
        self.assertEqual(names_of("bodies(m.g) - used", link), ("m.g",))

    def test_data_that_is_used(self):
        link = Link(program_of(func("main", "read a d 0", "addr b e", "readr a b 0"), data("d", "1"), data("e", "1"), data("f", "2")))
        self.assertEqual((names_of("used", link), names_of("kept", link)), (("m.d", "m.e", "m.main"), ("m.d", "m.main")))


if __name__ == "__main__":
    unittest.main()
