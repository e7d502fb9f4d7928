"""What all foldings of a program share: their likeness, and their runs."""

import itertools
import random
import unittest

from helpers import branching_programs, error_of, func, program_of, programs_at_random
from foldsame.checker import check_smallest
from foldsame.foldings import Folding, partitions
from foldsame.forks import Folded, Forks, Joined
from foldsame.images import Image
from foldsame.joins import Fold, joins_of
from foldsame.likeness import Likeness
from foldsame.machine import Steps, event_of
from foldsame.noticing import notice, size, table, uses
from foldsame.search import search_of
from foldsame.sizes import used_from
from foldsame.smallest import smallest_paper
from foldsame.walking import begin_both, walk_alone, walk_together

PROGRAMS = [*programs_at_random(60, 7, start=8000), *branching_programs(60, 6, start=900)]


def some_partitions(program, many=12):
    found = partitions(program.taken)
    return random.Random(len(found)).sample(found, min(many, len(found)))


class Bodies(unittest.TestCase):

    def same(self, joins, program, addresses, alone):
        likeness = Likeness(program, addresses, alone=alone)
        fold = Fold(joins, addresses)
        self.assertEqual((fold.parted(), fold.legal), (likeness.bodies, likeness.holds))
        for pair in itertools.combinations(program.pieces, 2):
            self.assertEqual(joins.path(fold.joined, pair), likeness.path(*pair))
            self.assertEqual(joins.alike(fold.joined, pair), pair in likeness)

    def test_with_nothing_alone(self):
        for program in PROGRAMS:
            joins = joins_of(program)
            for addresses in some_partitions(program):
                self.same(joins, program, addresses, ())

    def test_behind_several_calls(self):
        # Callers stand ahead of what they call, and behind it.
        for names in [("a", "b", "c", "e", "f", "g"), ("f", "g", "c", "e", "a", "b")]:
            one, other, low, lower, last, least = names
            for rows in (("tell a", "tell b"), (f"addr a {one}", f"addr a {other}"), ("tell a", "tell a")):
                program = program_of(func("main", f"addr a {one}", f"addr a {other}"), func(one, "call " + low), func(other, "call " + lower),
                                     func(low, "set c 1", "call " + last), func(lower, "set c 1", "call " + least), func(last, rows[0]), func(least, rows[1]))
                for addresses in partitions(program.taken):
                    self.same(joins_of(program), program, addresses, ())

    def test_with_some_alone(self):
        for program in PROGRAMS[::3]:
            for alone in [(program.pieces[0],), program.pieces[1:3], program.pieces]:
                joins = joins_of(program).with_alone(alone)
                for addresses in some_partitions(program, 4):
                    self.same(joins, program, addresses, alone)


class Runs(unittest.TestCase):

    def test_they_are_those_of_the_image(self):
        unlike = 0
        for program in PROGRAMS:
            joins = joins_of(program)
            forks = Forks(program, joins.bits)
            for addresses in some_partitions(program):
                fold = Fold(joins, addresses)
                if not fold.legal:
                    continue
                image = Image(Folding(program, addresses, fold.parted()))
                moment = error_of(notice, program, image) or (notice(program, image),)
                steps = Folded(forks, fold)
                walk, pair = walk_together(Joined(forks, 0), steps, begin_both(program, fold))
                if len(moment) == 1:
                    self.assertEqual(None if pair is None else walk.moments[pair], moment[0])
                    unlike += pair is not None
                if pair is None:
                    self.assertEqual(walk.found, table(program, image))
                    self.image_alone(image, Folded(forks, fold))
        self.assertGreater(unlike, 10)

    def image_alone(self, image, steps):
        walk, own = walk_alone(steps), walk_alone(Steps(image))
        self.assertEqual((walk.found, walk.moments), (own.found, own.moments))
        for state in walk.found:
            run = steps.run_from(state)
            self.assertEqual((run.event, run.frames, run.followers), event_of(image, state))
        self.assertEqual(used_from(steps, walk.found), uses(image))

    def test_what_foldings_share(self):
        shared = 0
        for program in PROGRAMS:
            search = search_of(program)
            legal = [fold for fold in search.folds() if fold.legal]
            for fold in legal[::3]:
                image = Image(fold.as_folding())
                judged = search.judged(fold)
                self.assertEqual(judged.noticed, notice(program, image))
                if judged.noticed is None:
                    self.assertEqual((judged.many, search.table(fold)), (size(image), table(program, image)))
            shared += len(legal[::3]) > 2
        self.assertGreater(shared, 20)

    def test_images_within_the_limit_where_the_joined_program_is_not(self):
        def program(*last):
            main = ["addr a f", "addr b g", "choose 5", "addr d f", "go 6", "addr d g", "same a b 8", "set d 0", *["call x"] * 6, *last]
            return program_of(func("main", *main), func("f"), func("g"), func("x", *["tell c"] * 16))

        # The image has one address for f and g, and the program forgets which one it had: each has half as many states.
        for last in (["call x"], ["call x", "tell d"]):
            one = program(*last)
            search = search_of(one)
            folds = [fold for fold in search.folds() if fold.legal]
            self.assertEqual([search.way_of(fold) is None for fold in folds], [True, False])
            for fold in folds:
                image = Image(fold.as_folding())
                judged = search.judged(fold)
                self.assertEqual(judged.noticed, notice(one, image))
                if judged.noticed is None:
                    self.assertEqual((judged.many, search.table(fold)), (size(image), table(one, image)))
            paper = smallest_paper(one)
            self.assertIs(check_smallest(one, paper), True)
            self.assertEqual(len(paper[0]), len(last))


if __name__ == "__main__":
    unittest.main()
