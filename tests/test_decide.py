"""Section 15, decide.py: what is sure by TREES that the test's own sums close, what is not by runs that it plays."""

import random
import unittest
from fractions import Fraction

from everyformat.cases import conditions
from everyformat.chains import is_chain
from everyformat.decide import claim_status, counter, leans_on, signs, some_run, trees, ways
from everyformat.errors import CanNot, TooMuch
from tests import exact, plays, questions
from tests.helpers import is_same
from tests.judges import pair, pairs, quotient, value_at

NONE, ONE, BACK, TWO = (0, 1), (1, 1), (-1, 1), (2, 1)
LOW = (("low", None),)
WORDS = ("at least", "above", "equal")
NEAR = ((0, None), (("round", 0, "near", (NONE, (NONE, ONE))),))
BAD = ((0, "down", (5, 1), NONE), (0, "member", (3, 1), (3, 1)))


def some_claim(rng, program):
    many = len(program[0]) + len(program[1])
    form = plays.some_form(rng, many)
    if many and rng.random() < 0.6:
        form = questions.less(rng.randrange(many), rng.randrange(many), many)
        form = (pair(Fraction(rng.choice([0, 0, 1, -1, 3]))), form[1])
    return (rng.choice(WORDS), form)


def turned(form):
    return (pair(-quotient(form[0])), tuple(pair(-quotient(x)) for x in form[1]))


class Random(unittest.TestCase):
    def each_question(self, seed, many, **sizes):
        rng = random.Random(seed)
        for at in range(many):
            question, chain, worths = questions.some_question(rng, at % 3 > 0, **sizes)
            yield rng, question, [exact.played_in(question[0], chain, question[2], worths)[:2]], chain, worths

    def check_run(self, question, run):
        """The cells and the WAY of a run that is returned."""
        self.assertTrue(is_chain(question[0], run[0]) and isinstance(run[1], tuple))
        played = questions.is_run(question, run)
        self.assertIsNotNone(played, (question, run))
        return played

    def check_sure(self, question, claim):
        """That a CLAIM holds in each run, by its TREES."""
        self.assertTrue(questions.is_paper(question, claim, trees(*question, claim)), (question, claim))
        self.assertIsNone(counter(*question, claim))

    def test_claims(self):
        seen = {}
        for rng, question, runs, chain, worths in self.each_question(1, 250):
            claim = some_claim(rng, question[2])
            status = claim_status(*question, claim)
            seen[status] = seen.get(status, 0) + 1
            if status == "sure":
                self.check_sure(question, claim)
            else:
                self.assertIsNone(trees(*question, claim))
                cells, _ = self.check_run(question, counter(*question, claim))
                self.assertFalse(questions.holds(claim, cells))
            if status == "never":
                self.check_never(question, claim)
            for cells, _ in runs + questions.more_runs(rng, question, chain, worths, 3):
                self.assertIn(status, ("some", "sure" if questions.holds(claim, cells) else "never"))
        self.assertTrue(all(seen[word] > 15 for word in ("sure", "never", "some")), seen)

    def check_never(self, question, claim):
        """That a CLAIM holds in no run, by the TREES for what is so instead, and by a run."""
        word, form = claim
        other = {"at least": ("above", turned(form)), "above": ("at least", turned(form))}.get(word)
        if other is not None:
            self.check_sure(question, other)
        else:
            found = signs(*question, form)
            self.assertNotIn(0, found)
        self.check_run(question, some_run(*question))

    def test_signs(self):
        for rng, question, runs, chain, worths in self.each_question(2, 120):
            form = some_claim(rng, question[2])[1]
            found = signs(*question, form)
            self.assertTrue(isinstance(found, tuple) and found == tuple(sorted(set(found))) and set(found) <= {-1, 0, 1})
            for cells, _ in runs + questions.more_runs(rng, question, chain, worths, 3):
                value = value_at(form, pairs(*cells))
                self.assertIn((value > 0) - (value < 0), found)
            for sign, claim in ((-1, ("at least", form)), (1, ("at least", turned(form)))):
                self.assertIs(sign in found, claim_status(*question, claim) in ("some", "never"))
            self.assertIs(0 in found, claim_status(*question, ("equal", form)) in ("some", "sure"))

    def test_some_runs(self):
        for _, question, _, _, _ in self.each_question(3, 120):
            self.check_run(question, some_run(*question))

    def test_ways(self):
        many = {}
        for rng, question, runs, chain, worths in self.each_question(4, 120, rounds=1, choices=3, starts=3):
            found = ways(*question)
            self.assertTrue(is_same(found, tuple(sorted(set(found)))))
            for _, way in runs + questions.more_runs(rng, question, chain, worths, 5):
                self.assertIn(way, found)
            many[len(found)] = True
            self.check_ways(question, found)
        self.assertGreater(len(many), 3)

    def check_ways(self, question, found):
        """By the PROGRAM with a last cell that is above 0 only on this WAY (and facts for those of first cells)."""
        levels, log, program, facts = question
        count = len([step for step in program[1] if step[0] in plays.CHOICES])
        for number in range(2 ** count):
            way = tuple(bool(number >> at & 1) for at in range(count))
            if count <= 2:
                self.assertIs(way in found, self.has_way(question, way))

    def has_way(self, question, way):
        """Whether some run has a WAY, by a search for the least amount by which each choice goes so."""
        levels, log, program, facts = question
        starts, steps, sizes = program[0], list(program[1]), []
        for step, first in zip([one for one in program[1] if one[0] in plays.CHOICES], way):
            many = len(starts) + len(steps)
            form = (step[1][0], step[1][1] + (NONE,) * (many - len(step[1][1]))) if step[0] == "pick" else questions.less(
                step[2] if step[0] == "least" else step[1], step[1] if step[0] == "least" else step[2], many)
            one = ("exact", (ONE, (NONE,) * many))
            steps += [one, ("exact", (NONE, (NONE,) * (many + 1)))]
            picked = ("pick", (form[0], form[1] + (NONE, NONE)), many, many + 1)
            steps.append(picked if first else picked[:2] + (many + 1, many))
            sizes.append(many + 2)
        many = len(starts) + len(steps)
        total = (pair(Fraction(1, 2) - len(sizes)), tuple(ONE if at in sizes else NONE for at in range(many)))
        return claim_status(levels, log, (starts, tuple(steps)), facts, ("above", total)) in ("some", "sure")

    def test_leaning(self):
        sizes = {}
        for rng, question, _, _, _ in self.each_question(5, 320, rows=5):
            claim = some_claim(rng, question[2])
            if claim_status(*question, claim) != "sure":
                with self.assertRaises(CanNot):
                    leans_on(*question, claim)
                continue
            levels, log, program, facts = question
            found = leans_on(*question, claim)
            rows, some = list(range(len(log))), list(range(len(facts)))
            for kept, things in ((rows, log), (some, facts)):
                for number in range(len(things)):
                    kept.remove(number)
                    less = (levels, tuple(log[at] for at in rows), program, tuple(facts[at] for at in some))
                    if claim_status(*less, claim) not in ("sure", "none"):
                        kept.append(number)
                        kept.sort()
            self.assertTrue(is_same(found, (tuple(rows), tuple(some))))
            sizes[tuple(len(part) for part in found)] = True
        self.assertGreater(len(sizes), 3)


class Edges(unittest.TestCase):
    def test_no_run_by_facts(self):
        none = ((BACK, (NONE, NONE)), False),
        claim = ("equal", (NONE, (ONE, ONE, ONE)))
        self.assertEqual(claim_status(LOW, (), NEAR, none, claim), "none")
        self.assertEqual(signs(LOW, (), NEAR, none, claim[1]), ())
        self.assertIsNone(some_run(LOW, (), NEAR, none))
        self.assertIsNone(counter(LOW, (), NEAR, none, claim))
        self.assertEqual(ways(LOW, (), NEAR, none), ())
        self.assertTrue(questions.is_paper((LOW, (), NEAR, none), claim, trees(LOW, (), NEAR, none, claim)))
        self.assertEqual(leans_on(LOW, (), NEAR, none, claim), ((), (0,)))

    def test_logs_that_are_not_possible(self):
        claim = ("equal", (NONE, (ONE, ONE, ONE)))
        self.assertEqual(claim_status(LOW, BAD, NEAR, (), claim), "none")
        self.assertEqual((signs(LOW, BAD, NEAR, (), claim[1]), ways(LOW, BAD, NEAR, ())), ((), ()))
        self.assertIsNone(some_run(LOW, BAD, NEAR, ()))
        self.assertIsNone(counter(LOW, BAD, NEAR, (), claim))
        found = trees(LOW, BAD, NEAR, (), claim)
        self.assertEqual(found, (("fault", ("inside", 1, 0)),) * 2)
        longer = ((0, "near", (9, 1), (9, 1)),) + BAD + ((0, "down", (3, 1), TWO),)
        self.assertEqual(leans_on(LOW, longer, NEAR, (((ONE, (ONE, ONE)), False),), claim), ((2, 3), ()))
        self.assertEqual(leans_on(LOW, BAD, ((), ()), (), ("above", (NONE, ()))), ((0, 1), ()))

    def test_a_log_without_which_another_one_decides(self):
        log = ((0, "down", (5, 1), NONE), (0, "member", (9, 1), (9, 1)))
        at_nine = (((-9, 1), (ONE,)), False), (((9, 1), (BACK,)), False)
        program = ((None,), (("round", 0, "near", (NONE, (ONE,))),))
        same = ("equal", (NONE, (ONE, BACK)))
        self.assertEqual(claim_status(LOW, log, program, at_nine, same), "sure")
        self.assertEqual(leans_on(LOW, log, program, at_nine, same), ((1,), (0, 1)))
        with self.assertRaises(CanNot):
            leans_on(LOW, log[:1], program, at_nine, same)

    def test_words(self):
        program, facts = ((None,), ()), (((NONE, (ONE,)), False),)
        form, minus = (NONE, (ONE,)), (NONE, (BACK,))
        expected = {("at least", form): "sure", ("above", form): "some", ("equal", form): "some", ("at least", minus): "some",
                    ("above", minus): "never", ("equal", (ONE, (ONE,))): "never", ("equal", (NONE, (NONE,))): "sure"}
        for claim, status in expected.items():
            self.assertEqual(claim_status(LOW, (), program, facts, claim), status)

    def test_starts_with_and_without_a_level(self):
        def program(start):
            return ((start,), (("round", 0, "down", (NONE, (ONE,))),))
        equal = ("equal", (NONE, (ONE, BACK)))
        self.assertEqual(claim_status(LOW, (), program(0), (), equal), "sure")
        self.assertEqual(claim_status(LOW, (), program(None), (), equal), "some")
        two = LOW * 2
        self.assertEqual(claim_status(two, (), program(1), (), equal), "some")
        wide = ((0,), (("round", 1, "up", (NONE, (ONE,))),))
        self.assertEqual(claim_status(two, (), wide, (), equal), "sure")

    def test_gaps(self):
        program = ((None,), (("round", 0, "near", (NONE, (ONE,))),))
        above = ("above", (ONE, (ONE, BACK)))
        for g, status in ((NONE, "sure"), ((1, 10), "some")):
            self.assertEqual(claim_status((("low", (TWO, g)),), (), program, (), above), status)
        self.assertEqual(claim_status((("high", (TWO, NONE)),), (), program, (), above), "some")
        inside = (((ONE, (ONE,)), False), ((ONE, (BACK,)), False))
        self.assertEqual(claim_status((("low", (TWO, (1, 2))),), (), program, inside, above), "some")
        wider = ("at least", ((3, 1), (ONE, BACK)))
        self.assertEqual(claim_status((("low", (TWO, (1, 2))),), (), program, inside, wider), "sure")
        two = (("low", None), ("low", (TWO, NONE)))
        wide = ((None,), (("round", 1, "near", (NONE, (ONE,))),))
        self.assertEqual(claim_status(two, (), wide, (), above), "sure")
        self.assertEqual(claim_status(two, (), program, (), above), "some")

    def test_ways_of_equal_cells(self):
        program = ((None, None), (("least", 0, 1), ("greatest", 0, 1), ("pick", (NONE, (ONE, BACK, NONE, NONE)), 0, 0)))
        expected = ((False, True, True), (True, False, False), (True, True, True))
        self.assertTrue(is_same(ways(LOW, (), program, ()), expected))
        self.assertEqual(ways(LOW, (), ((None,), ()), ()), ((),))
        always = ((None,), (("least", 0, 0), ("pick", (BACK, (NONE, NONE)), 0, 1)))
        self.assertEqual(ways(LOW, (), always, ()), ((True, False),))

    def test_sums_of_roundings(self):
        """Twice a member is a member once 0 is the least one that is there besides: with x and 0, x - x rounds to 0."""
        program = ((0, 0), (("round", 0, "near", (NONE, (ONE, BACK))),))
        equal = (((NONE, (ONE, BACK)), False), ((NONE, (BACK, ONE)), False))
        zero = ("equal", (NONE, (NONE, NONE, ONE)))
        self.assertEqual(claim_status(LOW, (), program, equal, zero), "some")
        log = ((0, "member", NONE, NONE),)
        self.assertEqual(claim_status(LOW, log, program, equal, zero), "sure")
        self.assertEqual(leans_on(LOW, log, program, equal, zero), ((0,), (0, 1)))

    def test_programs_without_cells(self):
        self.assertEqual(claim_status(LOW, (), ((), ()), (), ("at least", (NONE, ()))), "sure")
        self.assertEqual(claim_status(LOW, (), ((), ()), (), ("above", (NONE, ()))), "never")
        self.assertEqual(some_run(LOW, (), ((), ()), ())[1], ())
        self.assertEqual(signs(LOW, (), ((), ()), (), (BACK, ())), (-1,))

    def test_too_much_first(self):
        gap, many = (("low", (ONE, NONE)), LOW[0]), ((None,) * 9, ())
        claim = ("at least", (NONE, (ONE,) * 9))
        for levels, program in ((gap, ((None,) * 9, ())), (LOW, many), (gap, ((None,) * 9, ()))):
            for call in (lambda: signs(levels, BAD, program, (), claim[1]), lambda: claim_status(levels, BAD, program, (), claim),
                         lambda: some_run(levels, BAD, program, ()), lambda: counter(levels, BAD, program, (), claim),
                         lambda: ways(levels, BAD, program, ()), lambda: leans_on(levels, BAD, program, (), claim),
                         lambda: trees(levels, BAD, program, (), claim), lambda: conditions(levels, BAD, program)):
                with self.assertRaises(TooMuch):
                    call()
        sure = (((BACK, (NONE,) * 9), False),)
        with self.assertRaises(TooMuch):
            leans_on(LOW, (), many, sure, ("above", claim[1]))


class Bounds(unittest.TestCase):
    def question(self, gap, rows):
        """Three sums that are rounded one after the other, eight letters, with 20 ROWS and 12 pairs of facts."""
        levels, rng, log = (("low", gap),), random.Random(6), ()
        while len(log) < rows:
            kind, x = rng.choice(["near", "down", "up", "member"]), Fraction(rng.randint(0, 80), 4)
            shift = {"near": rng.choice([-1, 1]) * Fraction(1, 4), "down": -Fraction(1, 8), "up": Fraction(1, 8), "member": 0}[kind]
            row = (0, kind, pair(x), pair(x + shift))
            if exact.is_possible(levels, log + (row,)):
                log += (row,)
        steps = tuple(("round", 0, "near", (NONE, tuple(ONE if at in (2 + way, 4 + way) or (way == 0 and at < 2) else NONE
                                                         for at in range(5 + way)))) for way in range(3))
        program = ((0, 0, None, 0, None), steps)
        facts = tuple((((0, 1), tuple(ONE if at == one else NONE for at in range(5))), False) for one in range(5))
        facts += tuple((((3, 1), tuple(BACK if at == one else NONE for at in range(5))), one == 4) for one in range(5))
        facts += (((NONE, (ONE, BACK, NONE, NONE, NONE)), False), (((20, 1), (BACK,) * 5), True))
        return levels, log, program, facts

    def test_eight_letters(self):
        for gap in (None, ((1, 2), (1, 8))):
            question = self.question(gap, 20)
            self.assertEqual((len(question[1]), len(question[3])), (20, 12))
            for form, expected in (((NONE, (ONE, BACK) + (NONE,) * 6), "sure"), (((30, 1), (NONE,) * 7 + (BACK,)), "sure"),
                                   (((5, 1), (NONE,) * 7 + (BACK,)), "some")):
                claim = ("at least", form)
                self.assertEqual(claim_status(*question, claim), expected)
                if expected == "sure":
                    self.assertTrue(questions.is_paper(question, claim, trees(*question, claim)))
                else:
                    cells, _ = questions.is_run(question, counter(*question, claim))
                    self.assertFalse(questions.holds(claim, cells))
        self.assertEqual(leans_on(*question, ("at least", (NONE, (ONE, BACK) + (NONE,) * 6))), ((), (10,)))

    def test_great_numbers(self):
        big = 10 ** 30
        levels = (("low", ((big, 1), (1, big))),)
        log = ((0, "near", (big - 1, 1), (big, 1)), (0, "down", (1, big), (-1, big)))
        program = ((None,), (("round", 0, "near", ((1, big), ((1, big - 1),))),))
        question = (levels, log, program, (((NONE, (ONE,)), True), (((big, 1), (BACK,)), False)))
        claim = ("at least", ((-1, big), (NONE, ONE)))
        self.assertEqual(claim_status(*question, claim), "some")
        for run in (some_run(*question), counter(*question, claim)):
            self.assertIsNotNone(questions.is_run(question, run))
        sure = ("at least", ((big * 2, 1), (NONE, ONE)))
        self.assertTrue(questions.is_paper(question, sure, trees(*question, sure)))


if __name__ == "__main__":
    unittest.main()
