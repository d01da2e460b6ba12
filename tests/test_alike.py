"""Section 18, alike.py: PROGRAMS that are alike, by TREES for their difference and by runs that are played."""

import random
import unittest

from everyformat.alike import beside, is_alike, is_let, is_never_above, needless, parted
from everyformat.chains import is_chain
from everyformat.decide import trees
from everyformat.errors import NoPlace, TooMuch, Unfit
from everyformat.programs import is_program
from everyformat.rewrite import rewritten, with_step
from tests import exact, plays, questions, rewriting
from tests.helpers import is_same
from tests.judges import pair, pairs

NONE, ONE, BACK, HALF = (0, 1), (1, 1), (-1, 1), (1, 2)
LOW = (("low", None),)
TWO = LOW * 2
GAPPED = (("low", (ONE, NONE)), ("low", None))
PLAIN = ((None,), (("round", 0, "down", (NONE, (ONE,))),))
MEAN = ((None,), PLAIN[1] + (("round", 0, "down", (NONE, (HALF, HALF))),))
FALSE = ((BACK, (NONE,)), False),


def form(*factors, fixed=0):
    return (pair(fixed), pairs(*factors))


def size(program):
    return len(program[0]) + len(program[1])


def difference(program, other):
    """beside(program, other) with the last of program less that of other behind it, put together by hand."""
    first, many = size(program), len(program[0])
    places = list(range(many)) + list(range(first, first + len(other[1])))

    def moved_form(given, length):
        factors = [NONE] * length
        for at, x in enumerate(given[1]):
            factors[places[at]] = x
        return (given[0], tuple(factors))

    steps = list(program[1])
    for step in other[1]:
        parts = [moved_form(part, many + len(steps)) if isinstance(part, tuple) else part for part in step]
        if step[0] in plays.CHOICES:
            parts[-2:] = [places[part] for part in parts[-2:]]
        steps.append(tuple(parts))
    length = many + len(steps)
    last = questions.less(first - 1, (places + [None])[size(other) - 1], length)
    return (program[0], tuple(steps) + (("exact", last),))


def is_bearable(levels, program):
    rounds = [step for step in program[1] if step[0] == "round"]
    letters = len(program[0]) + len([step for step in program[1] if step[0] != "exact"])
    return not any(gap for _, gap in levels[:-1]) and len(rounds) <= 3 and letters <= 8


def some_other(rng, levels, program):
    """A PROGRAM with the same starts: one that is alike, or nearly, or any one."""
    starts, steps = program
    way = rng.random()
    if way < 0.3 and steps:
        at = rng.randrange(len(steps))
        return (starts, steps[:at] + (plays.some_step(rng, levels, len(starts) + at, ("copy", "exact", "round")),) + steps[at + 1:])
    if way < 0.5:
        last = size(program) - 1
        return (starts, steps + (("round", rng.randrange(levels), rng.choice(["down", "up", "near"]),
                                  questions.single(last, last + 1)),))
    if way < 0.7:
        return rewriting.rewritten(program)
    return (starts, steps[:1])


class Beside(unittest.TestCase):
    def test_ordinary(self):
        pick = ("pick", form(1, 0, 2), 2, 0)
        self.assertEqual(beside(((0, None), (("least", 0, 1), ("exact", form(1, 1, 1)))), ((0, None), (("greatest", 0, 1), pick))),
                         ((0, None), (("least", 0, 1), ("exact", form(1, 1, 1)), ("greatest", 0, 1),
                                      ("pick", form(1, 0, 0, 0, 2), 4, 0))))
        self.assertEqual(beside(PLAIN, PLAIN)[1][1], ("round", 0, "down", form(1, 0)))

    def test_without_steps(self):
        self.assertEqual(beside(((0,), ()), ((0,), ())), ((0,), ()))
        self.assertEqual(beside(PLAIN, ((None,), ())), PLAIN)
        self.assertEqual(beside(((None,), ()), PLAIN), PLAIN)
        self.assertEqual(beside(((), ()), ((), ())), ((), ()))

    def test_other_starts(self):
        for other in (((0,), ()), ((None, None), ()), ((), ())):
            with self.assertRaises(Unfit):
                beside(PLAIN, other)
            with self.assertRaises(Unfit):
                beside(other, PLAIN)

    def test_at_random(self):
        rng = random.Random(1)
        for _ in range(200):
            program = plays.some_program(rng, 2, 3, 5)
            other = (program[0], ())
            for many in range(len(program[0]), len(program[0]) + rng.randint(0, 4)):
                other = (other[0], other[1] + (plays.some_step(rng, 2, many, ("exact", "round", "least", "pick") if many
                                                                    else ("exact",)),))
            if size(program) and size(other):
                found = beside(program, other)
                self.assertTrue(is_same(found, (program[0], difference(program, other)[1][:-1])))
                self.assertTrue(is_program(TWO, found))


class NeverAbove(unittest.TestCase):
    def test_ordinary(self):
        for one, two, wanted in ((1, 0, True), (0, 1, False), (1, 2, True), (2, 0, True), (2, 1, True), (0, 2, False)):
            self.assertIs(is_never_above(LOW, (), MEAN, (), one, two), wanted)
        self.assertIs(is_never_above(LOW, ((0, "member", NONE, NONE),), PLAIN, (((BACK, (ONE,)), False),), 0, 1), False)
        self.assertIs(is_never_above(LOW, (), PLAIN, FALSE, 0, 1), True)
        self.assertIs(is_never_above(LOW, (), PLAIN, (), 0, 0), True)

    def test_errors_and_their_order(self):
        many = ((None,), PLAIN[1] + tuple(("round", 0, "up", form(*[1] * at)) for at in (2, 3, 4)))
        for one, two, wrong in ((5, -1, 5), (0, 5, 5), (-1, 0, -1)):
            with self.assertRaises(NoPlace) as caught:
                is_never_above(LOW, (), many, (), one, two)
            self.assertEqual(caught.exception.place, wrong)
        for levels, program in ((LOW, many), (GAPPED, PLAIN)):
            with self.assertRaises(TooMuch):
                is_never_above(levels, (), program, (), 0, 1)

    def test_at_random(self):
        rng, seen = random.Random(2), [0, 0]
        for at in range(150):
            question, chain, worths = questions.some_question(rng, at % 3 > 0)
            many = size(question[2])
            if not many:
                continue
            one, two = rng.randrange(many), rng.randrange(many)
            found = is_never_above(*question, one, two)
            seen[found] += one != two
            claim = ("at least", questions.less(two, one, many))
            proof = trees(*question, claim)
            self.assertIs(found, proof is not None and questions.is_paper(question, claim, proof))
            cells, _, _ = exact.played_in(question[0], chain, question[2], worths)
            self.assertTrue(not found or cells[one] <= cells[two])
        self.assertTrue(min(seen) > 15, seen)


class Alike(unittest.TestCase):
    def check(self, levels, log, program, other, facts, wanted):
        self.assertIs(is_alike(levels, log, program, other, facts), wanted)
        run = parted(levels, log, program, other, facts)
        self.assertEqual(run is None, wanted)
        if run is not None:
            self.check_parted((levels, log, program, facts), other, run)

    def check_parted(self, question, other, run):
        levels, log, program, facts = question
        self.assertTrue(is_chain(levels, run[0]) and isinstance(run[1], tuple))
        cells, _ = questions.is_run(question, run)
        others, _ = questions.is_run((levels, log, other, facts), run)
        self.assertNotEqual(cells[-1], others[-1])

    def test_ordinary(self):
        copy = ((None,), (("exact", form(1)),))
        self.check(LOW, (), MEAN, PLAIN, (), True)
        self.check(LOW, (), PLAIN, copy, (), False)
        self.check(LOW, (), copy, ((None,), ()), (), True)
        self.check(LOW, (), PLAIN, copy, FALSE, True)
        self.check(LOW, ((0, "member", NONE, NONE),), PLAIN, copy, (((NONE, (ONE,)), False), ((NONE, (BACK,)), False)), True)
        self.check(LOW, (), ((), (("exact", form()),)), ((), (("exact", form(fixed=1)),)), (), False)
        self.check(LOW, ((0, "member", ONE, ONE),), ((), (("round", 0, "near", form(fixed=1)),)),
                   ((), (("exact", form(fixed=1)),)), (), True)

    def test_programs_without_steps(self):
        self.check(LOW, (), ((0, None), ()), ((0, None), ()), (), True)
        self.check(LOW, (), ((0, None), ()), ((0, None), (("exact", form(1, 0)),)), (), False)
        self.check(LOW, (), ((0, None), (("round", 0, "near", form(0, 1)),)), ((0, None), ()), (), False)
        self.check(LOW, (), ((None, 0), (("round", 0, "near", form(0, 1)),)), ((None, 0), ()), (), True)

    def test_the_sides_matter(self):
        near = ((None,), (("round", 0, "near", form(1)),))
        low = ((None,), (("round", 0, "near", form(1)), ("exact", form(2, -1)), ("round", 0, "near", form(0, 0, 1))))
        self.check(LOW, (), near, low, (), False)

    def test_wrong_starts_before_too_much(self):
        many = ((None,), PLAIN[1] + tuple(("round", 0, "up", form(*[1] * at)) for at in (2, 3, 4)))
        other = ((0,), many[1])
        for function in (is_alike, parted):
            with self.assertRaises(Unfit):
                function(GAPPED, (), many, other, ())
            with self.assertRaises(TooMuch):
                function(LOW, (), many, PLAIN, ())
            with self.assertRaises(TooMuch):
                function(GAPPED, (), PLAIN, ((None,), ()), ())

    def test_too_much_is_told_of_the_rewritten_difference(self):
        many = ((None,), PLAIN[1] + tuple(("round", 0, "up", form(*[1] * at)) for at in (2, 3, 4)))
        self.check(LOW, (), many, many, (), True)
        three = ((None,), many[1][:3])
        self.check(LOW, (), three, (three[0], three[1][:2] + (("exact", form(1, 1, 1)), ("round", 0, "up", form(0, 0, 0, 1)))), (), True)
        with self.assertRaises(TooMuch):
            is_alike(LOW, (), three, ((None,), (("round", 0, "near", form(7)),)), ())
        with self.assertRaises(TooMuch):
            is_alike(GAPPED, (), many, many, ())

    def test_the_bounds_of_letters(self):
        starts = (None,) * 6
        low = ("least", 0, 1)
        three = (starts, (low, ("least", 2, 3), ("exact", form(0, 0, 0, 0, 0, 0, 1, 1))))
        self.check(LOW, (), three, (starts, three[1][:2] + (("exact", form(0, 0, 0, 0, 0, 0, 1, 2)),)), (), False)
        with self.assertRaises(TooMuch):
            is_alike(LOW, (), three, (starts, (("least", 4, 5),)), ())

    def test_at_random(self):
        rng, seen = random.Random(3), {}
        for at in range(260):
            question, chain, worths = questions.some_question(rng, at % 3 > 0)
            levels, log, program, facts = question
            if not size(program):
                continue
            other = some_other(rng, len(levels), program)
            if not size(other):
                continue
            short = rewriting.rewritten(difference(program, other))
            if not is_bearable(levels, short):
                seen["too much"] = seen.get("too much", 0) + 1
                self.assertRaises(TooMuch, is_alike, levels, log, program, other, facts)
                continue
            found = is_alike(levels, log, program, other, facts)
            seen[found] = seen.get(found, 0) + 1
            self.check(levels, log, program, other, facts, found)
            cells, _, _ = exact.played_in(levels, chain, program, worths)
            others, _, _ = exact.played_in(levels, chain, other, worths)
            self.assertTrue(not found or cells[-1] == others[-1])
            if found:
                claim = ("equal", questions.single(size(short) - 1, size(short)))
                asked = (levels, log, short, facts)
                self.assertTrue(questions.is_paper(asked, claim, trees(*asked, claim)))
        self.assertTrue(seen[True] > 60 and seen[False] > 60, seen)

    def test_a_rewritten_program_is_alike(self):
        rng = random.Random(4)
        for at in range(60):
            question, _, _ = questions.some_question(rng, at % 3 > 0)
            levels, log, program, facts = question
            if size(program):
                self.check(levels, log, program, rewritten(levels, program), facts, True)


class Let(unittest.TestCase):
    def test_ordinary(self):
        self.assertIs(is_let(LOW, (), MEAN, (), 1, ("exact", form(1))), True)
        self.assertIs(is_let(LOW, (), MEAN, (), 2, ("exact", form(0, 1))), True)
        self.assertIs(is_let(LOW, (), MEAN, (), 2, ("exact", form("1/2", "1/2"))), False)
        self.assertIs(is_let(LOW, (), MEAN, FALSE, 2, ("exact", form(9, 9))), True)

    def test_errors_and_their_order(self):
        many = ((None,), PLAIN[1] + tuple(("round", 0, "up", form(*[1] * at)) for at in (2, 3, 4)))
        for place in (0, 5, -1):
            with self.assertRaises(NoPlace) as caught:
                is_let(GAPPED, (), many, (), place, ("exact", form(1)))
            self.assertEqual(caught.exception.place, place)
        with self.assertRaises(TooMuch):
            is_let(LOW, (), many, (), 4, ("exact", form(1, 0, 0, 0)))
        self.assertIs(is_let(LOW, (), many, (), 4, many[1][3]), True)

    def test_at_random(self):
        rng, seen = random.Random(5), [0, 0]
        for at in range(120):
            question, _, _ = questions.some_question(rng, at % 3 > 0)
            levels, log, program, facts = question
            if not program[1]:
                continue
            place = rng.randrange(len(program[0]), size(program))
            step = plays.some_step(rng, len(levels), place, ("copy", "exact") if place else ("exact",))
            other = with_step(program, place, step)
            if is_bearable(levels, rewriting.rewritten(difference(other, program))):
                found = is_let(*question, place, step)
                seen[found] += 1
                self.assertIs(found, is_alike(levels, log, other, program, facts))
        self.assertTrue(min(seen) > 15, seen)


class Needless(unittest.TestCase):
    def test_ordinary(self):
        self.assertEqual(needless(LOW, (), MEAN, ()), (1,))
        self.assertEqual(needless(LOW, (), PLAIN, ()), ())
        self.assertEqual(needless(LOW, (), PLAIN, FALSE), (1,))
        self.assertEqual(needless(LOW, (), ((0,), PLAIN[1]), ()), (1,))
        both = ((0,), PLAIN[1] + (("round", 0, "up", form(1, 0)), ("round", 0, "near", form(1, 1, 1))))
        self.assertEqual(needless(LOW, (), both, ()), (1, 2))

    def test_without_roundings(self):
        starts = (None,) * 9
        self.assertEqual(needless(GAPPED, (), ((None,), (("exact", form(1)),)), ()), ())
        self.assertEqual(needless(GAPPED, (), (starts, (("least", 0, 1),)), ()), ())
        self.assertEqual(needless(LOW, (), ((0,), ()), ()), ())

    def test_too_much_for_one_of_them(self):
        many = ((None,), (("round", 0, "down", form(1)), ("round", 0, "up", form(2, 0)), ("round", 0, "near", form(3, 0, 0)),
                          ("exact", form(0, 1, 1, 1))))
        for levels, program in ((GAPPED, PLAIN), (LOW, (many[0], many[1] + (("round", 0, "near", form(0, 0, 0, 0, 1)),)))):
            with self.assertRaises(TooMuch):
                needless(levels, (), program, ())
        self.assertEqual(needless(LOW, (), many, ()), ())

    def test_at_random(self):
        rng, seen = random.Random(6), {}
        for at in range(80):
            question, _, _ = questions.some_question(rng, at % 3 > 0)
            levels, log, program, facts = question
            rounded = [cell for cell, step in enumerate(program[1], start=len(program[0])) if step[0] == "round"]
            others = {cell: with_step(program, cell, ("exact", program[1][cell - len(program[0])][3])) for cell in rounded}
            if all(is_bearable(levels, rewriting.rewritten(difference(other, program))) for other in others.values()):
                wanted = tuple(cell for cell in rounded if is_alike(levels, log, others[cell], program, facts))
                self.assertEqual(needless(*question), wanted)
                seen[bool(wanted)] = seen.get(bool(wanted), 0) + 1
            else:
                self.assertRaises(TooMuch, needless, *question)
        self.assertTrue(seen[True] > 10 and seen[False] > 10, seen)


if __name__ == "__main__":
    unittest.main()
