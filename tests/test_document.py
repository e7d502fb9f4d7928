"""The examples of the document, and the whole program together."""

import doctest
import unittest

from helpers import branching_programs, programs_at_random, rows, two_joinings
from foldsame.checker import check_smallest
from foldsame.console import Console
from foldsame.images import Image, load
from foldsame.journal import Bench, recover
from foldsame.machine import begin, records
from foldsame.needed import stripped
from foldsame.noticing import notice, size
from foldsame.questions import Question
from foldsame.replacing import Patch, replaceable, resume
from foldsame.texts import parse_module

EXAMPLES = [
r"""
>>> from foldsame.texts import parse_module
>>> module = parse_module('export main\nfunc main\nset a 5\ntell a\nend')
>>> (module.exports, module.pieces[0].rows, 'main' in module)
(('main',), (('set', 'a', 5), ('tell', 'a')), True)
""",
r"""
>>> from foldsame.programs import Program
>>> program = Program({'m': 'export main\nfunc main\ncall f\naddr a g\nend\nalias f g', 'n': 'export g\nfunc g\nend'})
>>> (program.pieces, program.taken, program.rows_of('m.main'))
(('m.main', 'n.g'), ('n.g',), (('call', 'n.g'), ('addr', 'a', 'n.g')))
""",
r"""
>>> from foldsame.machine import begin, event_of, record
>>> from foldsame.programs import Program
>>> program = Program({'m': 'export main\nfunc main\nchoose 3\nset a 1\nret\ntell a\nend'})
>>> (record(program, [0]), record(program, [1]))
((('asked',), ('chosen', 0), ('ended', 'done')), (('asked',), ('chosen', 1), ('told', 0), ('ended', 'done')))
>>> event_of(program, begin(program))[2]
[((('m.main', 1),), (0, 0, 0, 0)), ((('m.main', 3),), (0, 0, 0, 0))]
""",
r"""
>>> from foldsame.likeness import Likeness
>>> from foldsame.programs import Program
>>> main = 'export main\nfunc main\ncall f\nend\nfunc f\ntell a\ncall g\nend\nfunc g\ntell a\ncall f\nend'
>>> program = Program({'m': main + '\nfunc h\ntell b\ncall f\nend\nfunc i\ntell a\ncall h\nend'})
>>> likeness = Likeness(program, ())
>>> (likeness.bodies, likeness.path('m.f', 'm.h'), likeness.path('m.f', 'm.i'))
((('m.f', 'm.g'), ('m.h',), ('m.i',), ('m.main',)), (), (1,))
""",
r"""
>>> from foldsame.foldings import foldings
>>> from foldsame.programs import Program
>>> main = 'export main\nfunc main\naddr a f\naddr b g\nsame a b 4\ntell c\nend'
>>> program = Program({'m': main + '\nfunc f\nend\nfunc g\nend'})
>>> [one.addresses for one in foldings(program)]
[(('m.f', 'm.g'),), (('m.f',), ('m.g',))]
""",
r"""
>>> from foldsame.foldings import foldings
>>> from foldsame.images import Image
>>> from foldsame.programs import Program
>>> main = 'export main\nfunc main\naddr a f\naddr b g\nsame a b 4\ntell c\nend'
>>> program = Program({'m': main + '\nfunc f\nend\nfunc g\nend'})
>>> str(Image(list(foldings(program))[0])).split('\n')[:3]
['image 1', 'address 0 m.f m.g', 'func m.f m.g']
""",
r"""
>>> from foldsame.foldings import foldings
>>> from foldsame.images import Image
>>> from foldsame.noticing import notice, size
>>> from foldsame.programs import Program
>>> main = 'export main\nfunc main\naddr a f\naddr b g\nsame a b 4\ntell c\nend'
>>> program = Program({'m': main + '\nfunc f\nend\nfunc g\nend'})
>>> images = [Image(one) for one in foldings(program)]
>>> ([notice(program, one) for one in images], [size(one) for one in images])
([((), 0), None], [4, 4])
""",
r"""
>>> from foldsame.checker import check_smallest
>>> from foldsame.foldings import foldings
>>> from foldsame.images import Image
>>> from foldsame.noticing import notice
>>> from foldsame.programs import Program
>>> from foldsame.smallest import smallest, smallest_paper
>>> first = 'export main\nfunc main\naddr a f\naddr b g\nset c 1\nset d 1\nsame a b 6\ngo 7\nset d 2\naddr a h\naddr b i'
>>> main = first + '\nsame a b 11\ngo 15\nsame d c 14\nset d 1\ngo 15\nset d 2\ntell d\nend'
>>> program = Program({'m': main + '\nfunc f\nend\nfunc g\nend\nfunc h\nret\nend\nfunc i\nret\nend'})
>>> [notice(program, Image(one)) for one in foldings(program)]
[None, ((), 0), ((), 0), None]
>>> smallest(program).addresses
(('m.f', 'm.g'), ('m.h', 'm.i'))
>>> paper = smallest_paper(program)
>>> (check_smallest(program, paper), check_smallest(program, (paper[0], [], paper[2])), paper[2][0][0])
(True, False, 'apart')
""",
r"""
>>> from foldsame.compared import compared, fewest
>>> from foldsame.programs import Program
>>> first = 'export main\nfunc main\naddr a f\naddr b g\nset c 1\nset d 1\nsame a b 6\ngo 7\nset d 2\naddr a h\naddr b i'
>>> main = first + '\nsame a b 11\ngo 15\nsame d c 14\nset d 1\ngo 15\nset d 2\ntell d\nend'
>>> program = Program({'m': main + '\nfunc f\nend\nfunc g\nend\nfunc h\nret\nend\nfunc i\nret\nend'})
>>> (compared(program), fewest(program).addresses)
((('m.f', 'm.g'), ('m.h', 'm.i')), (('m.f',), ('m.g',), ('m.h',), ('m.i',)))
""",
r"""
>>> from foldsame.needed import check_unused, states
>>> from foldsame.noticing import uses
>>> from foldsame.programs import Program
>>> main = 'export main\nfunc main\naddr a f\naddr b g\nsame a b 4\ntell c\nend'
>>> program = Program({'m': main + '\nfunc f\nend\nfunc g\nend'})
>>> (uses(program), check_unused(program, states(program), 'm.f'))
((('m.main',), ()), True)
""",
r"""
>>> from foldsame.foldings import foldings
>>> from foldsame.images import Image
>>> from foldsame.programs import Program
>>> from foldsame.stacks import sources, unique
>>> main = 'export main\nfunc main\nchoose 3\naddr a f\ngo 4\naddr a g\ncallr a\nend'
>>> program = Program({'m': main + '\nfunc f\ntell b\nend\nfunc g\ntell b\nend'})
>>> image = Image(list(foldings(program))[0])
>>> unique(program, image)
(((0,), 1), ((1,), 1))
>>> [moment for stack, moment in sources(program, image, (('m.main', 5), ('m.f', 0)))]
[((0,), 1), ((1,), 1)]
""",
r"""
>>> from foldsame.foldings import Folding
>>> from foldsame.images import Image
>>> from foldsame.programs import Program
>>> from foldsame.replacing import Patch, replaceable, unsure
>>> main = 'export main\nfunc main\nchoose 3\naddr a p\ngo 4\naddr a q\ncallr a\ncallr a\nend'
>>> program = Program({'m': main + '\nfunc p\nset b 1\ntell b\nend\nfunc q\nset b 1\ntell b\nend'})
>>> image = Image(Folding(program, (('m.p', 'm.q'),), (('m.main',), ('m.p', 'm.q'))))
>>> patch = Patch(program, 'm.p', 'set b 2\ntell b')
>>> (unsure(program, image, patch), replaceable(program, patch).addresses)
((((0,), 2), ((1,), 2), ((), 0)), (('m.p',), ('m.q',)))
""",
r"""
>>> from foldsame.archives import gather
>>> from foldsame.journal import Bench, recover
>>> found = gather({'m': 'export main\nfunc main\ncall f\nend'}, [{'x': 'export f\nfunc f\ncall g\nend', 'y': 'export g'}])
>>> bench = Bench()
>>> done = bench.put('m', 'export main\nfunc main\ntell a\nend')
>>> size = bench.link().size
>>> (list(found[0]), found[1], size, bench.journal)
(['m', 'x', 'y'], (('f', 0, 'x'), ('g', 0, 'y')), 1, '1 put m export main / func main / tell a / end\n2 link\n')
>>> recover(bench.journal[:-3]).journal
'1 put m export main / func main / tell a / end\n'
""",
r"""
>>> from foldsame.console import Console
>>> from foldsame.questions import Question
>>> console = Console()
>>> text = 'export main / func main / call f / end / func f / tell a / end / func g / tell a / end'
>>> (console('put m ' + text), console('link'), console('ask bodies(m.g) - used'), console('show'))
('done', 'size 2', 'm.g', 'm.f                 1  2  0 used\nm.main              1  1  0 used')
>>> (Question('(all)-leads( m.f )').text, Question('used | kept')(console.bench.last).names)
('all - leads(m.f)', ('m.f', 'm.main'))
""",
]


def texts_of(program):
    """The text of one module that has all pieces of a program of one module."""
    parts = ["export main"]
    for name in program.pieces:
        parts.append(f"{program.kind_of(name)} {name[2:]}")
        for row in program.rows_of(name):
            words = row if isinstance(row, tuple) else (row,)
            parts.append(" ".join([str(word).removeprefix("m.") for word in words]))
        parts.append("end")
    return {"m": rows(*parts)}


class Examples(unittest.TestCase):

    def test_examples(self):
        for number, text in enumerate(EXAMPLES):
            test = doctest.DocTestParser().get_doctest(text, {}, f"example {number}", None, 0)
            self.assertGreater(len(test.examples), 1)
            report = []
            result = doctest.DocTestRunner(verbose=False).run(test, out=report.append)
            self.assertEqual(result.failed, 0, "".join(report))


class Together(unittest.TestCase):

    def bench(self, program):
        """A bench whose entry is in a member of the shelf, so that it joins."""
        bench = Bench()
        for name, text in texts_of(program).items():
            bench.shelve(name, str(parse_module(text)))
        return bench

    def test_read_linked_written_read_back_and_run(self):
        for program in [*programs_at_random(12, start=77), *branching_programs(12, start=31), two_joinings()]:
            bench = self.bench(program)
            link = bench.link()
            self.assertEqual(link.program, program)
            image = load(str(link.image))
            self.assertEqual((image, notice(program, image), size(image)), (link.image, None, link.size))
            for code in (image, stripped(image), stripped(program)):
                self.assertEqual(list(records(code, 3)), list(records(program, 3)))
            self.assertIs(check_smallest(program, bench.last.certificate), True)
            again = recover(bench.journal)
            self.assertEqual(str(again.last.image), str(link.image))
            self.assertEqual(again.last.certificate, link.certificate)
            self.assertEqual(Question("kept - bodies(used)")(link).names, ())

    def test_a_patch_of_what_was_linked(self):
        for program in branching_programs(8, start=61):
            link = self.bench(program).link()
            patch = Patch(link.program, "m.f", "tell a")
            image = Image(replaceable(link.program, patch))
            state = resume(link.program, image, patch, begin(image))
            self.assertEqual(state, begin(program))
            self.assertGreaterEqual(size(image), link.size)

    def test_by_lines(self):
        console = Console()
        self.assertEqual(console("shelve m " + texts_of(two_joinings())["m"].replace("\n", " / ")), "done")
        self.assertEqual(console("link"), "size 16")
        self.assertEqual(console("ask mates(m.f)"), "m.f m.g")
        self.assertEqual(console("ask kept"), "m.main")


if __name__ == "__main__":
    unittest.main()
