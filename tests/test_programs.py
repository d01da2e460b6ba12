"""Section 13, programs.py: PROGRAMS, judged by runs that are played step by step."""

import random
import unittest
from fractions import Fraction

from everyformat.errors import Unfit
from everyformat.programs import cell_levels, is_program, mirrored_program, straightened, traces
from everyformat.rows import mirrored
from everyformat.straight import is_form
from everyformat.systems import is_system
from tests import plays
from tests.helpers import ODD_THINGS, badly_reduced, is_same, nearly
from tests.judges import is_point, pair, pairs, value_at

NONE, ONE, HALF = (0, 1), (1, 1), (1, 2)
LEVELS = (("low", None), ("high", None))
MEAN, COPY_UP = ("round", 0, "near", (NONE, (HALF, HALF))), ("round", 1, "up", (NONE, (NONE, NONE, ONE)))
PROGRAM = ((0, 0), (MEAN, COPY_UP, ("least", 1, 3)))
PICK = ((None, 1), (("exact", (ONE, (HALF, NONE))), ("pick", (NONE, (ONE, NONE, (-1, 1))), 2, 0)))


class Kinds(unittest.TestCase):
    def test_programs(self):
        for program in (PROGRAM, PICK, ((), ()), ((None,), ()), ((), (("exact", (HALF, ())),)), ((1, 0, None), ())):
            self.assertIs(is_program(LEVELS, program), True)
        self.assertIs(is_program(LEVELS[:1], PROGRAM), False)
        self.assertIs(is_program(LEVELS[:1], PROGRAM[:1] + (PROGRAM[1][:1],)), True)

    def test_wrong_programs(self):
        form = (NONE, (ONE,))
        for step in (("exact", (NONE, ())), ("exact", (NONE, (ONE, ONE))), ("exact",), ("exact", form, 0), ("least", 0), ("least", 0, 1),
                     ("least", -1, 0), ("least", 0, 0, 0), ("greatest", 1, 0), ("pick", form, 0, 1), ("pick", form, 0), ("pick", 0, 0, form),
                     ("pick", (NONE, ()), 0, 0), ("round", 2, "down", form), ("round", -1, "up", form), ("round", 0, "member", form),
                     ("round", 0, "down"), ("round", "down", 0, form), ("round", None, "near", form), ("Round", 0, "down", form),
                     ("most", 0, 0), (), ("round",), None, "exact", ("round", 0, "near", form, 0), ("exact", NONE), (0, 0, 0)):
            self.assertIs(is_program(LEVELS, ((None,), (step,))), False, step)
        for starts in ((2,), (-1,), ("free",), ((),), [None], None, ("low",), (True,), (False,)):
            self.assertIs(is_program(LEVELS, (starts, ())), False, starts)

    def test_nearly_programs(self):
        for program in (PROGRAM, PICK):
            paths = [(1, 0, 1, 0), (1, 0, 1, 1, 0)] if program == PICK else [(1, 0, 3, 0), (1, 0, 3, 1, 1)]
            for thing in nearly(program) + [one for path in paths for one in badly_reduced(program, path)]:
                self.assertIs(is_program(LEVELS, thing), self.may_be(program, thing), thing)
        for thing in ODD_THINGS:
            self.assertIs(is_program(LEVELS, thing), is_same(thing, ((), ())) or is_same(thing, ((0, 1), ())))

    def may_be(self, program, thing):
        """A level in the place of None, and None in the place of a level, make another PROGRAM."""
        if not isinstance(thing, tuple) or len(thing) != 2 or not is_same(thing[1], program[1]):
            return False
        return isinstance(thing[0], tuple) and len(thing[0]) == 2 and all(
            one is None or (type(one) is int and one in (0, 1)) for one in thing[0])

    def test_at_the_bounds(self):
        starts = (None, 0, 1, 0, 1, None, None, 0)
        steps = []
        for at in range(24):
            form = (HALF, (ONE,) * (8 + at))
            steps.append([("round", 0, "up", form), ("exact", form), ("least", 0, 7 + at), ("pick", form, at, 7)][at % 4])
        program = (starts, tuple(steps))
        self.assertIs(is_program(LEVELS, program), True)
        self.assertIs(is_program(LEVELS, (starts[1:], program[1])), False)
        self.assertEqual(len(traces(LEVELS, program)), 32)
        straight, system = straightened(LEVELS, program, (True, False) * 6)
        self.assertTrue(is_program(LEVELS, straight) and is_system(system, 32) and len(system) == 12)


class Traces(unittest.TestCase):
    def test_by_runs(self):
        rng = random.Random(1)
        kinds = {}
        for _ in range(400):
            levels = tuple((rng.choice(["low", "high"]), None) for _ in range(rng.randint(1, 3)))
            program = plays.some_program(rng, len(levels), 3, 7)
            forms, ranks = traces(levels, program), cell_levels(levels, program)
            many = len(program[0]) + len(program[1])
            self.assertTrue(is_same(type(forms), list) and len(forms) == len(ranks) == many)
            self.assertTrue(all(is_form(form, many) for form in forms))
            members = plays.some_members(rng, len(levels))
            cells, _ = plays.played_among(levels, members, program, plays.worths_for(rng, program, members))
            for cell, value in enumerate(cells):
                self.assertEqual(value_at(forms[cell], pairs(*cells)), value)
                if ranks[cell] is not None:
                    self.assertIn(value, members[ranks[cell]])
                kinds[(self.is_alone(forms[cell], cell), ranks[cell] is None)] = True
        self.assertEqual(len(kinds), 4)

    def is_alone(self, form, cell):
        return is_same(form, (NONE, tuple(ONE if at == cell else NONE for at in range(len(form[1])))))

    def single(self, cell, many):
        return (NONE, tuple(ONE if at == cell else NONE for at in range(many)))

    def check(self, program, expected, ranks):
        forms = traces(LEVELS, program)
        many = len(forms)
        self.assertTrue(is_same(forms, [self.single(one, many) if isinstance(one, int) else one for one in expected]))
        self.assertTrue(is_same(cell_levels(LEVELS, program), ranks))

    def test_roundings_of_members(self):
        def program(start, level):
            return ((start,), (("round", level, "down", (NONE, (ONE,))),))
        self.check(program(0, 0), [0, 0], [0, 0])
        self.check(program(0, 1), [0, 0], [0, 0])
        self.check(program(1, 0), [0, 1], [1, 0])
        self.check(program(None, 1), [0, 1], [None, 1])
        for form in ((ONE, (ONE,)), (NONE, ((2, 1),)), (NONE, ((-1, 1),)), (NONE, (NONE,)), (NONE, (HALF,))):
            self.check(((0,), (("round", 1, "near", form),)), [0, 1], [0, 1])

    def test_exact_cells(self):
        double, back = ("exact", (NONE, ((2, 1),))), ("exact", (NONE, (NONE, HALF)))
        self.check(((1,), (double, back, ("round", 1, "up", (NONE, (NONE, NONE, ONE))))),
                   [0, (NONE, ((2, 1), NONE, NONE, NONE)), 0, 0], [1, None, 1, 1])
        self.check(((), (("exact", (HALF, ())), ("round", 0, "up", (NONE, (ONE,))))), [(HALF, (NONE, NONE)), 1], [None, 0])

    def test_choices(self):
        copy = ("exact", (NONE, (ONE, NONE)))
        self.check(((0, 1), (copy, ("least", 0, 2), ("greatest", 0, 1), ("pick", (ONE, (NONE,) * 5), 3, 0))),
                   [0, 1, 0, 0, 4, 0], [0, 1, 0, 0, 1, 0])
        self.check(((0, None), (("least", 0, 1), ("round", 1, "near", (NONE, (NONE, NONE, ONE))))), [0, 1, 2, 3], [0, None, None, 1])
        self.check(((0, 1), (("greatest", 0, 1), ("least", 2, 0), ("round", 1, "down", (NONE, (NONE, NONE, ONE, NONE))),
                             ("round", 0, "down", (NONE, (NONE, NONE, ONE, NONE, NONE))))),
                   [0, 1, 2, 3, 2, 5], [0, 1, 1, 1, 1, 0])

    def test_without_starts_and_steps(self):
        self.check(((), ()), [], [])
        self.check(((None, 1), ()), [0, 1], [None, 1])
        self.check(((), (("round", 1, "up", (HALF, ())), ("least", 0, 0))), [0, 0], [1, 1])


class Straight(unittest.TestCase):
    def test_by_runs(self):
        rng = random.Random(2)
        ways = {}
        for _ in range(250):
            levels = tuple((rng.choice(["low", "high"]), None) for _ in range(rng.randint(1, 2)))
            program = plays.some_program(rng, len(levels), 3, 6)
            members = plays.some_members(rng, len(levels))
            worths = plays.worths_for(rng, program, members)
            cells, way = plays.played_among(levels, members, program, worths)
            for other in {way, tuple(not one for one in way), tuple(rng.random() < 0.5 for _ in way)}:
                straight, system = straightened(levels, program, other)
                self.check_shape(levels, program, straight, system, other)
                found, _ = plays.played_among(levels, members, straight, worths)
                holds = is_point(system, pairs(*found))
                self.assertIs(holds, other == way)
                self.assertTrue(found == cells or not holds)
                ways[(len(way), holds)] = True
        self.assertGreater(len(ways), 6)

    def check_shape(self, levels, program, straight, system, way):
        self.assertTrue(is_program(levels, straight) and is_system(system, len(program[0]) + len(program[1])))
        self.assertEqual((straight[0], len(straight[1]), len(system)), (program[0], len(program[1]), len(way)))
        self.assertEqual([strict for _, strict in system], [not one for one in way])
        choices = iter(way)
        for cell, (old, new) in enumerate(zip(program[1], straight[1]), start=len(program[0])):
            if old[0] in plays.CHOICES:
                taken = old[-2] if next(choices) else old[-1]
                old = ("exact", (NONE, tuple(ONE if at == taken else NONE for at in range(cell))))
            self.assertTrue(is_same(new, old))

    def test_pairs(self):
        plain = ((None, None), (("least", 0, 1), ("greatest", 1, 0), ("pick", (ONE, (ONE, NONE, HALF, NONE)), 0, 0)))
        back = (-1, 1)
        _, system = straightened(LEVELS, plain, (True, True, True))
        forms = [(NONE, (back, ONE, NONE, NONE, NONE)), (NONE, (back, ONE, NONE, NONE, NONE)), (ONE, (ONE, NONE, HALF, NONE, NONE))]
        self.assertTrue(is_same(system, tuple((form, False) for form in forms)))
        _, system = straightened(LEVELS, plain, (False, False, False))
        forms = [(NONE, (ONE, back, NONE, NONE, NONE)), (NONE, (ONE, back, NONE, NONE, NONE)), (back, (back, NONE, (-1, 2), NONE, NONE))]
        self.assertTrue(is_same(system, tuple((form, True) for form in forms)))

    def test_ways_of_wrong_lengths(self):
        for way in ((), (True, False), [], [False, False]):
            with self.assertRaises(Unfit):
                straightened(LEVELS, PROGRAM, way)
        with self.assertRaises(Unfit):
            straightened(LEVELS, ((), ()), (True,))
        self.assertEqual(straightened(LEVELS, ((), ()), ()), (((), ()), ()))


class Mirrored(unittest.TestCase):
    def test_by_runs(self):
        rng = random.Random(3)
        for _ in range(250):
            levels = tuple((rng.choice(["low", "high"]), None) for _ in range(rng.randint(1, 2)))
            program = plays.some_program(rng, len(levels), 3, 6)
            turned = mirrored_program(program)
            self.assertTrue(is_program(levels, turned) and is_same(mirrored_program(turned), program))
            members = plays.some_members(rng, len(levels))
            worths = plays.worths_for(rng, program, members)
            cells, way = plays.played_among(levels, members, program, worths)
            back = [[-x for x in reversed(some)] for some in members]
            found, other = plays.played_among(mirrored(levels, ())[0], back, turned, [-x for x in worths])
            self.assertEqual((found, other), ([-x for x in cells], way))

    def test_steps(self):
        program = ((0, None), (("round", 0, "down", (HALF, (ONE, NONE))), ("round", 0, "near", (HALF, (ONE, NONE, ONE))),
                               ("exact", (ONE, (ONE,) * 4)), ("pick", (ONE, (ONE,) * 5), 1, 0), ("least", 0, 1), ("greatest", 1, 0)))
        back = (-1, 1)
        expected = ((0, None), (("round", 0, "up", ((-1, 2), (ONE, NONE))), ("round", 0, "near", ((-1, 2), (ONE, NONE, ONE))),
                                ("exact", (back, (ONE,) * 4)), ("pick", (ONE, (back,) * 5), 1, 0), ("greatest", 0, 1), ("least", 1, 0)))
        self.assertTrue(is_same(mirrored_program(program), expected))
        self.assertEqual(mirrored_program(((), ())), ((), ()))
        self.assertEqual(pair(Fraction(-1, 2)), (-1, 2))


if __name__ == "__main__":
    unittest.main()
