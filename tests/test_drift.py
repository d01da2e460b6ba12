"""Section 17: drift, judged by CLAIMS that TREES prove and by runs that are played beside the exact ones."""

import random
import unittest
from fractions import Fraction

from everyformat.decide import claim_status, counter, signs, trees
from everyformat.drift import (
    drift_run, drift_status, drift_stretch, exact_twin, greatest_drift, is_drift, least_shift, worth_stretch,
)
from everyformat.errors import CanNot, NoPlace, TooMuch
from everyformat.programs import is_program
from tests import exact, grids, plays, questions
from tests.helpers import ODD_THINGS, badly_reduced, is_same, nearly
from tests.judges import is_point, pair, pairs, quotient, value_at

NONE, ONE, BACK, HALF = (0, 1), (1, 1), (-1, 1), (1, 2)
LOW = (("low", None),)
ANY = ((None,), (("round", 0, "near", (NONE, (ONE,))),))
MEAN = ((0, 0), (("round", 0, "near", (NONE, (HALF, HALF))),))
UNIT = (((NONE, (ONE, NONE)), False), ((NONE, (BACK, ONE)), False), ((ONE, (NONE, BACK)), False))
FALSE = ((BACK, (NONE,)), False),


def turned(form):
    return (pair(-quotient(form[0])), tuple(pair(-quotient(x)) for x in form[1]))


def less_worth(form, x):
    """A FORM less a Fraction."""
    return (pair(quotient(form[0]) - x), form[1])


def drift_form(program, cell):
    """The drift of a cell, a FORM of the cells of the exact twin; and the FORM of its exact cell."""
    first, many = len(program[0]), len(program[1])
    moved = cell if cell < first else cell + many
    return questions.less(cell, moved, first + 2 * many), questions.single(moved, first + 2 * many)


class Random(unittest.TestCase):
    def each_question(self, seed, many, **sizes):
        rng = random.Random(seed)
        for at in range(many):
            question, chain, worths = questions.some_question(rng, at % 4 > 0, **sizes)
            levels, _, program, _ = question
            if program[0] or program[1]:
                moved = [worths] + [cells[:len(worths)]
                                    for cells, _ in questions.more_runs(rng, question, chain, worths, 4)]
                yield rng, question, [self.both(levels, chain, program, one) for one in moved]

    def both(self, levels, chain, program, worths):
        return exact.played_in(levels, chain, program, worths)[0], plays.played_exactly(program, worths)[0]

    def check_end(self, question, form, end, is_in):
        """That the values of form go up to end, and are it only if is_in: by TREES and by runs."""
        if end is None:
            self.assertIs(is_in, False)
            self.check_above(question, form, Fraction(10 ** 9))
            return
        limit = turned(less_worth(form, quotient(end)))
        claim = ("at least" if is_in else "above", limit)
        self.assertTrue(questions.is_paper(question, claim, trees(*question, claim)))
        if is_in:
            self.assertIn(0, signs(*question, limit))
        else:
            self.check_above(question, form, quotient(end) - Fraction(1, 10 ** 9))

    def check_above(self, question, form, x):
        """That there is a run in which form is above x."""
        cells, _ = questions.is_run(question, counter(*question, ("at least", turned(less_worth(form, x)))))
        self.assertGreater(value_at(form, pairs(*cells)), x)

    def check_stretch(self, question, form, stretch):
        low, low_in, high, high_in = stretch
        self.check_end(question, form, high, high_in)
        self.check_end(question, turned(form), None if low is None else pair(-quotient(low)), low_in)

    def test_worths(self):
        ends = {}
        for rng, question, runs in self.each_question(1, 150):
            program = question[2]
            many = len(program[0]) + len(program[1])
            form = plays.some_form(rng, many)
            if rng.random() < 0.7:
                form = questions.less(rng.randrange(many), rng.randrange(many), many)
            found = worth_stretch(*question, form)
            self.check_stretch(question, form, found)
            for cells, _ in runs:
                self.assertTrue(grids.is_in(found, value_at(form, pairs(*cells))))
            for end, is_in in (found[:2], found[2:]):
                ends[(end is None, is_in)] = ends.get((end is None, is_in), 0) + 1
        self.assertTrue(all(ends[key] > 20 for key in ((True, False), (False, True), (False, False))), ends)

    def test_drifts(self):
        bounded = 0
        for rng, question, runs in self.each_question(2, 150, choices=1):
            levels, log, program, facts = question
            cell = rng.randrange(len(program[0]) + len(program[1]))
            form, _ = drift_form(program, cell)
            twin = (levels, log, exact_twin(program), facts)
            found = drift_stretch(*question, cell)
            self.check_stretch(twin, form, found)
            self.assertTrue(is_same(found, worth_stretch(*twin, form)))
            most = self.most_by(found)
            self.assertTrue(is_same(greatest_drift(*question, cell), most))
            self.check_things(question, cell, most)
            for cells, others in runs:
                drift = abs(cells[cell] - others[cell])
                self.assertTrue(most is None or drift < quotient(most[0]) or (most[1] and drift == quotient(most[0])))
            self.check_drift_runs(question, cell, most)
            bounded += most is not None and most[0] != NONE
        self.assertGreater(bounded, 30)

    def most_by(self, stretch):
        low, low_in, high, high_in = stretch
        if low is None or high is None:
            return None
        most = max(-quotient(low), quotient(high))
        return (pair(most), (low_in and -quotient(low) == most) or (high_in and quotient(high) == most))

    def check_things(self, question, cell, most):
        if most is None:
            self.assertIs(is_drift(*question, cell, (ONE, True)), False)
            self.assertIs(is_drift(*question, cell, None), False)
        else:
            self.assertIs(is_drift(*question, cell, most), True)
            self.assertIs(is_drift(*question, cell, (most[0], not most[1])), False)
            self.assertIs(is_drift(*question, cell, (pair(quotient(most[0]) + 1), most[1])), False)

    def check_drift_runs(self, question, cell, most):
        if most is None:
            self.check_drift_run(question, cell, Fraction(10 ** 6))
            return
        size = quotient(most[0])
        self.assertIsNone(drift_run(*question, cell, most[0]))
        for less in (Fraction(1), size / 3, Fraction(1, 10 ** 9)):
            if size - less >= 0 and less:
                self.check_drift_run(question, cell, size - less)

    def check_drift_run(self, question, cell, size):
        chain, worths = drift_run(*question, cell, pair(size))
        cells, _ = questions.is_run(question, (chain, worths))
        others, _ = plays.played_exactly(question[2], plays.quotients(worths))
        self.assertGreater(abs(cells[cell] - others[cell]), size)

    def test_statuses(self):
        seen = {}
        for rng, question, runs in self.each_question(3, 150, choices=1):
            program = question[2]
            cell = rng.randrange(len(program[0]) + len(program[1]))
            rate, shift = rng.choice([NONE, NONE, (1, 8), ONE, (2, 1)]), rng.choice([NONE, HALF, ONE, (4, 1), (20, 1)])
            status = drift_status(*question, cell, rate, shift)
            for cells, others in runs:
                fits = abs(cells[cell] - others[cell]) <= quotient(rate) * abs(others[cell]) + quotient(shift)
                self.assertIn(status, ("some", "sure" if fits else "never"))
            least = least_shift(*question, cell, rate)
            self.assertIs(status == "sure", least is not None and quotient(least) <= quotient(shift))
            self.check_least(question, cell, rate, least)
            seen[status] = seen.get(status, 0) + 1
        self.assertTrue(seen["sure"] > 30 and seen["some"] > 30, seen)

    def check_least(self, question, cell, rate, least):
        if least is None:
            self.assertIn(drift_status(*question, cell, rate, pair(Fraction(10 ** 6))), ("some", "never"))
            return
        self.assertGreaterEqual(least[0], 0)
        self.assertEqual(drift_status(*question, cell, rate, least), "sure")
        for less in (Fraction(1, 10 ** 9), quotient(least) / 2):
            if quotient(least) > less > 0:
                self.assertIn(drift_status(*question, cell, rate, pair(quotient(least) - less)), ("some", "never"))
        self.check_sure_by_trees(question, cell, rate, least)

    def check_sure_by_trees(self, question, cell, rate, least):
        """Two picks more make rate times the size of the exact cell, and a CLAIM of it."""
        levels, log, program, facts = question
        twin = exact_twin(program)
        form, single = drift_form(program, cell)
        many = len(form[1])
        steps = twin[1] + (("exact", (NONE, tuple(pair(-quotient(x)) for x in single[1]))),
                           ("greatest", single[1].index(ONE), many))
        for way in (1, -1):
            total = (least, tuple(pair(-way * quotient(x)) for x in form[1]) + (NONE, rate))
            claim = ("at least", total)
            asked = (levels, log, (twin[0], steps), facts)
            try:
                self.assertTrue(questions.is_paper(asked, claim, trees(*asked, claim)))
            except TooMuch:
                self.assertGreater(len([step for step in steps if step[0] != "exact"]) + len(twin[0]), 8)

    def test_twins(self):
        rng = random.Random(4)
        for _ in range(200):
            program = plays.some_program(rng, 2, 3, 6)
            twin = exact_twin(program)
            first, many = len(program[0]), len(program[1])
            self.assertTrue(is_program(LOW * 2, twin) and len(twin[1]) == 2 * many and twin[1][:many] == program[1])
            self.assertNotIn("round", [step[0] for step in twin[1][many:]])
            members = plays.some_members(rng, 2)
            worths = plays.worths_for(rng, program, members)
            cells, way = plays.played_among(LOW * 2, members, twin, worths)
            own, own_way = plays.played_among(LOW * 2, members, program, worths)
            others, other_way = plays.played_exactly(program, worths)
            self.assertEqual((cells[:first + many], cells[first + many:]), (own, others[first:]))
            self.assertEqual(way, own_way + other_way)


class Edges(unittest.TestCase):
    def test_a_twin(self):
        program = ((None,), (("round", 0, "up", (ONE, (HALF,))), ("pick", (ONE, (ONE, BACK)), 1, 0), ("least", 1, 2), ("exact", (NONE, (ONE,) * 4))))
        zeros = (NONE,) * 4
        expected = program[1] + (("exact", (ONE, (HALF,) + zeros)), ("pick", (ONE, (ONE,) + zeros + (BACK,)), 5, 0), ("least", 5, 6),
                                 ("exact", (NONE, (ONE,) + zeros + (ONE,) * 3)))
        self.assertTrue(is_same(exact_twin(program), ((None,), expected)))
        self.assertEqual(exact_twin(((), ())), ((), ()))
        self.assertEqual(exact_twin(((0, None), ())), ((0, None), ()))

    def test_without_a_bound_reached_and_neared(self):
        for gap, kind, expected in (
            (None, "near", None), ((ONE, NONE), "near", (HALF, True)), ((ONE, NONE), "down", (ONE, False)), ((ONE, (1, 4)), "near", None),
        ):
            for side in ("low", "high"):
                program = ((None,), (("round", 0, kind, (NONE, (ONE,))),))
                question = (((side, gap),), (), program, ())
                self.assertEqual(greatest_drift(*question, 1), expected)
                self.assertIs(is_drift(*question, 1, expected), expected is not None)
        inside = (((ONE, (ONE,)), False), ((ONE, (BACK,)), False))
        self.assertEqual(greatest_drift((("low", (ONE, (1, 4))),), (), ANY, inside, 1), ((4, 7), True))
        for strict in (False, True):
            beside = ((((-2, 1), (ONE,)), strict), (((3, 1), (BACK,)), strict))
            self.assertEqual(greatest_drift((("low", (ONE, (1, 4))),), (), ANY, beside, 1), ((7, 9), not strict))

    def test_first_and_exact_cells(self):
        program = ((0, None), (("exact", (NONE, (ONE, ONE))), ("round", 0, "down", (NONE, (NONE, NONE, ONE))), ("exact", (NONE, (NONE,) * 3 + ((3, 1),)))))
        levels = (("low", (ONE, NONE)),)
        for cell, expected in ((0, (NONE, True, NONE, True)), (1, (NONE, True, NONE, True)), (2, (NONE, True, NONE, True)),
                               (3, (BACK, False, NONE, True)), (4, ((-3, 1), False, NONE, True))):
            self.assertTrue(is_same(drift_stretch(levels, (), program, (), cell), expected))
        self.assertEqual(greatest_drift(levels, (), program, (), 0), (NONE, True))
        self.assertEqual(least_shift(levels, (), program, (), 1, NONE), NONE)
        self.assertEqual(drift_status(levels, (), program, (), 2, NONE, NONE), "sure")
        self.assertIsNone(drift_run(levels, (), program, (), 2, NONE))
        self.assertIsNotNone(drift_run(levels, (), program, (), 2, BACK))

    def test_choices_that_go_another_way(self):
        program = ((None,), (("round", 0, "down", (NONE, (ONE,))), ("exact", (NONE, (NONE, NONE))), ("exact", ((10, 1), (NONE,) * 3)),
                             ("pick", (NONE, (NONE, ONE, NONE, NONE)), 3, 2)))
        inside = (((NONE, (ONE,)), False), ((ONE, (BACK,)), False))
        levels = (("low", (ONE, NONE)),)
        self.assertEqual(greatest_drift(levels, (), program, inside, 4), ((10, 1), True))
        self.assertEqual(greatest_drift(levels, ((0, "member", NONE, NONE),), program, inside, 4), (NONE, True))

    def test_examples_of_shifts(self):
        levels = (("low", (ONE, (1, 4))),)
        self.assertIsNone(least_shift(levels, (), ANY, (), 1, NONE))
        self.assertEqual(least_shift(levels, (), ANY, (), 1, (1, 8)), (4, 7))
        self.assertEqual(least_shift(levels, (), ANY, (), 1, ONE), (4, 7))
        self.assertEqual(drift_status(levels, (), ANY, (), 1, (1, 8), (4, 7)), "sure")
        self.assertEqual(drift_status(levels, (), ANY, (), 1, (1, 10), (4, 7)), "some")
        self.assertEqual(drift_status(levels, (), ANY, (), 1, (1, 8), (1, 2)), "some")
        apart = (((NONE, (ONE, NONE)), False), (((-1, 1), (BACK, ONE)), False), (((9, 1), (NONE, BACK)), False))
        log = ((0, "down", (9, 1), NONE),)
        program = ((None, None), (("round", 0, "down", (NONE, (NONE, ONE))),))
        self.assertEqual(drift_status(LOW, log, program, apart, 2, NONE, HALF), "never")

    def test_no_run(self):
        for log, facts in (((), FALSE), (((0, "down", ONE, NONE), (0, "member", HALF, HALF)), ())):
            for call in (lambda: worth_stretch(LOW, log, ANY, facts, (NONE, (ONE, ONE))), lambda: drift_stretch(LOW, log, ANY, facts, 1),
                         lambda: greatest_drift(LOW, log, ANY, facts, 1), lambda: least_shift(LOW, log, ANY, facts, 0, ONE)):
                with self.assertRaises(CanNot):
                    call()
            self.assertEqual(drift_status(LOW, log, ANY, facts, 1, ONE, ONE), "none")
            self.assertIsNone(drift_run(LOW, log, ANY, facts, 1, NONE))
            self.assertIs(is_drift(LOW, log, ANY, facts, 1, (HALF, True)), False)

    def test_no_cell_ahead_of_too_much_ahead_of_all(self):
        gapped = (("low", (ONE, NONE)),) + LOW
        choice = ((None,) * 6, (("least", 0, 1), ("greatest", 0, 1)))
        self.assertEqual(claim_status(LOW, (), choice, (), ("above", (NONE, (NONE,) * 8))), "never")
        self.assertEqual(worth_stretch(LOW, (), choice, (), (NONE, (NONE,) * 8)), (NONE, True, NONE, True))
        calls = [lambda levels, program, cell: drift_stretch(levels, (), program, FALSE[:0], cell),
                 lambda levels, program, cell: greatest_drift(levels, (), program, (), cell),
                 lambda levels, program, cell: is_drift(levels, (), program, (), cell, None),
                 lambda levels, program, cell: drift_run(levels, (), program, (), cell, ONE),
                 lambda levels, program, cell: drift_status(levels, (), program, (), cell, ONE, ONE),
                 lambda levels, program, cell: least_shift(levels, (), program, (), cell, ONE)]
        for call in calls:
            for levels, program, many in ((LOW, choice, 8), (gapped, ANY, 2)):
                for cell in (many, -1, 99):
                    with self.assertRaises(NoPlace) as caught:
                        call(levels, program, cell)
                    self.assertEqual(caught.exception.place, cell)
                with self.assertRaises(TooMuch):
                    call(levels, program, 0)
        with self.assertRaises(TooMuch):
            worth_stretch(gapped, (), ANY, FALSE, (NONE, (ONE, ONE)))
        with self.assertRaises(TooMuch):
            drift_stretch(gapped, (), ANY, FALSE, 1)

    def test_nearly_drifts(self):
        question = (LOW, (), MEAN, UNIT, 2)
        thing = (HALF, True)
        self.assertIs(is_drift(*question, thing), True)
        for one in nearly(thing) + badly_reduced(thing, (0,)) + ODD_THINGS + [(HALF, False), (ONE, True), ((-1, 2), True), (HALF, 1)]:
            self.assertIs(is_drift(*question, one), False, one)

    def test_great_numbers_and_many_rows(self):
        big = 10 ** 30
        levels = (("low", ((big, 1), (1, big))),)
        log = tuple((0, "near", pair(Fraction(at * 10 ** 28)), pair(at * 10 ** 28 + Fraction(1, big - at))) for at in range(1, 21))
        program = ((None,), (("round", 0, "near", ((1, big), ((1, 2),))),))
        facts = (((NONE, (ONE,)), False), (((big, 1), (BACK,)), False))
        question = (levels, log, program, facts)
        form, _ = drift_form(program, 1)
        found = drift_stretch(*question, 1)
        twin = (levels, log, exact_twin(program), facts)
        Random().check_stretch(twin, form, found)
        self.assertTrue(is_point(facts, drift_run(*question, 1, ONE)[1]))


if __name__ == "__main__":
    unittest.main()
