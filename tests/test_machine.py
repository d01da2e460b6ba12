"""Section 13, machine.py: runs, judged by runs that are played step by step among all members of a CHAIN."""

import random
import unittest
from fractions import Fraction

from everyformat.errors import Unfit
from everyformat.gaps import shows
from everyformat.machine import exact_way, log_of_run, run_exact, run_in, way_of
from everyformat.rows import is_log
from tests import exact, plays
from tests.helpers import is_same
from tests.judges import pair, pairs

NONE, ONE, HALF, BACK = (0, 1), (1, 1), (1, 2), (-1, 1)
LEVELS = (("low", None), ("high", None))
CHAIN = (((9, 1), (1, 1)), ((((0, 1), (3, 1), (5, 1)), ()), (((4, 1),), ())))
BIG = 10 ** 30


class Played(unittest.TestCase):
    def each_run(self, seed, many):
        rng = random.Random(seed)
        for _ in range(many):
            levels, chain, members = exact.some_formats(rng)
            program = plays.some_program(rng, len(levels), 3, 6)
            yield rng, levels, chain, program, plays.worths_for(rng, program, members)

    def test_runs_in_chains(self):
        for _, levels, chain, program, worths in self.each_run(1, 250):
            cells, way, log = exact.played_in(levels, chain, program, worths)
            args = (levels, chain, program, pairs(*worths))
            self.assertTrue(is_same(run_in(*args), pairs(*cells)))
            self.assertTrue(is_same(way_of(*args), way))
            self.assertTrue(is_same(log_of_run(*args), log))
            self.assertTrue(is_log(levels, log))
            self.assertIs(shows(tuple((side, None) for side, _ in levels), chain, log), True)

    def test_exact_runs(self):
        for _, _, _, program, worths in self.each_run(2, 200):
            cells, way = plays.played_exactly(program, worths)
            self.assertTrue(is_same(run_exact(program, pairs(*worths)), pairs(*cells)))
            self.assertTrue(is_same(exact_way(program, pairs(*worths)), way))

    def test_runs_whose_exact_values_are_members(self):
        marks = tuple(Fraction(at, 6) for at in range(-60, 61))
        chain = (pairs(11, 1), ((pairs(*marks), ()),))
        same = 0
        for rng, _, _, program, _ in self.each_run(3, 200):
            program = (tuple(None if one is None else 0 for one in program[0]),
                       tuple((step[0], 0) + step[2:] if step[0] == "round" else step for step in program[1]))
            worths = [rng.choice(marks) for _ in program[0]]
            cells, way = plays.played_exactly(program, worths)
            if all(x in marks for x in cells):
                same += 1
                for side in ("low", "high"):
                    args = (((side, None),), chain, program, pairs(*worths))
                    self.assertEqual((run_in(*args), way_of(*args)), (pairs(*cells), way))
        self.assertGreater(same, 40)


class Edges(unittest.TestCase):
    def test_worths_that_are_no_members(self):
        program = ((None, 1, 0), (("exact", (NONE, (ONE, ONE, ONE))),))
        self.assertEqual(run_in(LEVELS, CHAIN, program, pairs(Fraction(1, 3), 4, 5))[3], (28, 3))
        for worths in ((1, 1, 5), (1, 4, 4), (1, 4, 1), (1, Fraction(7, 2), 5)):
            for function in (run_in, log_of_run, way_of):
                with self.assertRaises(Unfit):
                    function(LEVELS, CHAIN, program, pairs(*worths))
        self.assertEqual(run_exact(program, pairs(1, 1, 1))[3], (3, 1))
        self.assertEqual(exact_way(program, pairs(1, 1, 1)), ())

    def test_choices_of_equal_cells(self):
        program = ((None, None), (("least", 1, 0), ("greatest", 1, 0), ("pick", (NONE, (ONE, BACK, NONE, NONE)), 0, 1)))
        for worths, way in (((3, 3), (True, True, True)), ((3, 4), (False, True, False)), ((4, 3), (True, False, True))):
            self.assertTrue(is_same(way_of(LEVELS, CHAIN, program, pairs(*worths)), way))
            self.assertTrue(is_same(exact_way(program, pairs(*worths)), way))

    def test_forms_that_are_zero_at_a_pick(self):
        program = ((0,), (("round", 0, "down", ((1, 3), (ONE,))), ("pick", (NONE, (ONE, BACK)), 0, 1), ("pick", (NONE, (NONE,) * 3), 0, 1)))
        self.assertEqual(way_of(LEVELS, CHAIN, program, pairs(3)), (True, True))
        self.assertEqual(exact_way(program, pairs(3)), (False, True))

    def test_programs_without_starts_or_steps(self):
        self.assertEqual(run_in(LEVELS, CHAIN, ((), ()), ()), ())
        self.assertEqual(log_of_run(LEVELS, CHAIN, ((), ()), ()), ())
        self.assertEqual(way_of(LEVELS, CHAIN, ((), ()), ()), ())
        self.assertEqual(log_of_run(LEVELS, CHAIN, ((None, 1), ()), pairs(2, 4)), ((1, "member", (4, 1), (4, 1)),))
        self.assertEqual(run_exact(((), (("round", 0, "up", (HALF, ())),)), ()), (HALF,))
        self.assertEqual(run_in(LEVELS, CHAIN, ((), (("round", 0, "up", (HALF, ())),)), ()), ((3, 1),))

    def test_at_the_bounds(self):
        starts = (None,) * 8
        steps = []
        for at in range(24):
            form = (pair(Fraction(1, BIG - at)), (pair(Fraction(BIG, 7)),) + (NONE,) * (6 + at) + (ONE,))
            steps.append([("round", 0, "near", form), ("exact", form), ("round", 1, "up", form), ("greatest", 0, 7 + at)][at % 4])
        worths = tuple(Fraction(BIG - at, BIG + 1 + at) for at in range(8))
        chain = (pairs(BIG, Fraction(1, BIG)), CHAIN[1])
        cells, way, log = exact.played_in(LEVELS, chain, (starts, tuple(steps)), worths)
        args = (LEVELS, chain, (starts, tuple(steps)), pairs(*worths))
        self.assertEqual((run_in(*args), way_of(*args), log_of_run(*args)), (pairs(*cells), way, log))


if __name__ == "__main__":
    unittest.main()
