"""Section 19, ends.py: two ends and choices, by runs that are played beside the exact ones, and by TREES."""

import random
import unittest
from fractions import Fraction

from everyformat.decide import claim_status, trees
from everyformat.drift import exact_twin
from everyformat.ends import (
    choice_status, ends_width, exact_copy, is_held, sure_choices, two_ends, unheld, wrong_choice,
)
from everyformat.errors import CanNot, NoPlace, TooMuch, Unfit
from everyformat.programs import is_program
from tests import exact, plays, questions
from tests.helpers import is_same
from tests.judges import pair, pairs, quotient
from tests.test_alike import difference, form, is_bearable, size

NONE, ONE, BACK, HALF = (0, 1), (1, 1), (-1, 1), (1, 2)
LOW = (("low", None),)
UNIT = (("low", (ONE, NONE)),)
GAPPED = (("low", (ONE, NONE)), ("low", None))
PLAIN = ((None,), (("round", 0, "down", (NONE, (ONE,))),))
FALSE = ((BACK, (NONE,)), False),
SIGN = ((0, 0), (("round", 0, "down", form(-1, 1)), ("pick", form(0, 0, 1), 1, 0)))


def ends_by_play(levels, members, program, worths):
    """The lower and the upper ends of the cells, step by step."""
    lows, highs = [Fraction(x) for x in worths], [Fraction(x) for x in worths]

    def rounded(level, kind, x):
        return plays.grids.rounded(levels, members[level], level, kind, x)

    for step in program[1]:
        if step[0] in ("least", "greatest"):
            most = min if step[0] == "least" else max
            low, high = [most(ends[step[1]], ends[step[2]]) for ends in (lows, highs)]
        elif step[0] == "pick":
            low, high = span(step[1], lows, highs)
            if low >= 0 or high < 0:
                cell = step[2] if low >= 0 else step[3]
                low, high = lows[cell], highs[cell]
            else:
                low, high = min(lows[step[2]], lows[step[3]]), max(highs[step[2]], highs[step[3]])
        else:
            low, high = span(step[-1], lows, highs)
            if step[0] == "round":
                low, high = rounded(step[1], "down", low), rounded(step[1], "up", high)
        lows.append(low)
        highs.append(high)
    return lows, highs


def span(given, lows, highs):
    """The least and the greatest value of a FORM between ends."""
    low = high = quotient(given[0])
    for factor, one, other in zip(given[1], lows, highs):
        both = sorted([quotient(factor) * one, quotient(factor) * other])
        low, high = low + both[0], high + both[1]
    return low, high


class Copies(unittest.TestCase):
    def test_exact_copy(self):
        pick = ("pick", form(1, 0, 2), 2, 0)
        self.assertEqual(exact_copy(((0, None), (("round", 0, "near", form(1, 1)), pick, ("exact", form(1, 0, 0, 0))))),
                         ((0, None), (("exact", form(1, 1)), pick, ("exact", form(1, 0, 0, 0)))))
        self.assertEqual(exact_copy(((), ())), ((), ()))

    def test_two_ends_of_each_step(self):
        self.assertEqual(two_ends(LOW, ((0, None), (("round", 0, "near", form(2, -3, fixed=1)),)))[1],
                         (("round", 0, "down", form(2, -3, fixed=1)), ("round", 0, "up", form(2, -3, 0, fixed=1))))
        steps = (("exact", form(1)), ("exact", form(0, -2, fixed=5)))
        self.assertEqual(two_ends(LOW, ((None,), steps)), (
            (None,), (("exact", form(1)), ("exact", form(1, 0)),
                      ("exact", form(0, 0, -2, fixed=5)), ("exact", form(0, -2, 0, 0, fixed=5)))))
        for word in ("least", "greatest"):
            self.assertEqual(two_ends(LOW, ((None,), (("exact", form(1)), (word, 0, 1))))[1][2:], ((word, 0, 1), (word, 0, 2)))

    def test_two_ends_of_a_pick(self):
        steps = (("exact", form(1)), ("exact", form(1, 0)), ("pick", form(1, -1, 2), 1, 2))
        self.assertEqual(two_ends(LOW, ((None,), steps))[1][4:], (
            ("least", 1, 3), ("greatest", 2, 4),
            ("pick", form(1, -1, 0, 0, 2, 0, 0), 5, 3), ("pick", form(1, -1, 0, 0, 2, 0, 0, 0), 6, 4),
            ("pick", form(1, 0, -1, 2, 0, 0, 0, 0, 0), 1, 7), ("pick", form(1, 0, -1, 2, 0, 0, 0, 0, 0, 0), 2, 8)))

    def test_without_steps(self):
        for program in (((), ()), ((0,), ())):
            with self.assertRaises(CanNot):
                two_ends(LOW, program)

    def test_ends_of_played_runs(self):
        rng = random.Random(1)
        for _ in range(200):
            many = rng.randint(1, 2)
            program = plays.some_program(rng, many, 2, 5)
            if not program[1]:
                continue
            levels = tuple((rng.choice(["low", "high"]), None) for _ in range(many))
            found = two_ends(levels, program)
            self.assertTrue(is_program(levels, found))
            for _ in range(4):
                members = plays.some_members(rng, many)
                worths = plays.worths_for(rng, program, members)
                lows, highs = ends_by_play(levels, members, program, worths)
                cells, _ = plays.played_among(levels, members, found, worths)
                self.assertEqual(cells[-2:], [lows[-1], highs[-1]])
                for played in (plays.played_exactly(program, worths)[0], plays.played_among(levels, members, program, worths)[0]):
                    self.assertTrue(cells[-2] <= played[-1] <= cells[-1])


class Held(unittest.TestCase):
    def check(self, levels, log, program, other, facts, wanted):
        self.assertIs(is_held(levels, log, program, other, facts), wanted)
        run = unheld(levels, log, program, other, facts)
        self.assertEqual(run is None, wanted)
        if run is not None:
            cells, _ = questions.is_run((levels, log, other, facts), run)
            last = plays.played_exactly(program, plays.quotients(run[1]))[0][-1]
            self.assertFalse(cells[-2] <= last <= cells[-1])

    def test_ordinary(self):
        ends = two_ends(LOW, PLAIN)
        self.check(LOW, (), PLAIN, ends, (), True)
        self.check(LOW, (), PLAIN, (ends[0], ends[1][:1]), (), False)
        self.check(LOW, (), PLAIN, (ends[0], ends[1] + (("least", 1, 1),)), (), False)
        self.check(LOW, (), PLAIN, (ends[0], ends[1] + (("least", 1, 1),)), FALSE, True)
        self.check(LOW, (), PLAIN, (ends[0], (("round", 0, "up", form(1)), ("exact", form(1, 0)))), (), False)

    def test_starts_as_ends(self):
        starts = (None, None)
        between = (((NONE, (BACK, ONE)), False),)
        mean = (starts, (("round", 0, "near", form("1/2", "1/2")),))
        self.check(LOW, (), mean, (starts, ()), between, True)
        self.check(LOW, (), mean, (starts, ()), (), False)
        self.check(LOW, (), mean, (starts, (("greatest", 0, 1),)), between, False)
        self.check(LOW, (), (starts, (("exact", form(0, 1)),)), (starts, (("greatest", 0, 1),)), between, True)
        self.check(LOW, (), (starts, ()), (starts, ()), (), False)
        self.check(LOW, (), (starts, ()), (starts, ()), between, True)

    def test_errors_and_their_order(self):
        ends = two_ends(LOW, PLAIN)
        for program, other, wanted in (
            (PLAIN, ((0,), ()), Unfit), (((), ()), ((0,), ()), Unfit), (PLAIN, ((None,), ()), CanNot),
            (((), ()), ((), (("exact", form()),)), CanNot), (((), ()), ((), (("exact", form()), ("exact", form(0)))), CanNot),
            (((), (("exact", form()),)), ((), (("exact", form()),)), CanNot), (PLAIN, ends, TooMuch),
        ):
            for function in (is_held, unheld):
                with self.assertRaises(wanted):
                    function(GAPPED, (), program, other, ())
        many = ((None,), ends[1] + ends[1])
        for function in (is_held, unheld):
            with self.assertRaises(TooMuch):
                function(LOW, (), PLAIN, (many[0], many[1][:2] + tuple(
                    ("round", 0, "up", form(*[1] * at)) for at in (3, 4))), ())

    def test_roundings_of_the_program_itself_do_not_count(self):
        starts = (None,)
        program = (starts, tuple(("round", 0, "near", questions.single(at, at + 1)) for at in range(5)))
        self.check(LOW, (), program, two_ends(LOW, PLAIN), (), True)

    def test_at_random(self):
        rng, seen = random.Random(2), {True: 0, False: 0}
        for at in range(150):
            question, chain, worths = questions.some_question(rng, at % 3 > 0, rounds=1, starts=2)
            levels, log, program, facts = question
            if not program[1]:
                continue
            other = two_ends(levels, program)
            if rng.random() < 0.6:
                other = (other[0], other[1] + (plays.some_step(rng, len(levels), size(other), ("exact", "copy", "least")),) *
                         rng.randint(0, 1))
                last = size(other) - 1
                other = (other[0], other[1] + (("exact", questions.single(rng.choice([last, last - 1, last - 1]), last + 1)),))
            both = difference(exact_copy(program), other)
            if not is_bearable(levels, both):
                self.assertRaises(TooMuch, is_held, levels, log, program, other, facts)
                continue
            found = is_held(levels, log, program, other, facts)
            seen[found] += 1
            self.check(levels, log, program, other, facts, found)
            cells, _, _ = exact.played_in(levels, chain, other, worths)
            last = plays.played_exactly(program, worths)[0][-1]
            self.assertTrue(not found or cells[-2] <= last <= cells[-1])
        self.assertTrue(min(seen.values()) > 20, seen)


class Width(unittest.TestCase):
    def test_ordinary(self):
        self.assertEqual(ends_width(UNIT, (), PLAIN, ()), (ONE, True))
        self.assertIsNone(ends_width(LOW, (), PLAIN, ()))
        around = (((ONE, (ONE,)), False), ((ONE, (BACK,)), False))
        log = ((0, "member", (2, 1), (2, 1)), (0, "member", (-2, 1), (-2, 1)))
        self.assertEqual(ends_width(LOW, log, PLAIN, around), ((4, 1), True))
        self.assertEqual(ends_width(LOW, (), ((None,), (("exact", form(3)),)), ()), (NONE, True))
        strict = tuple((one, True) for one, _ in around)
        self.assertEqual(ends_width(LOW, log + ((0, "member", ONE, ONE),), PLAIN, strict), ((3, 1), True))

    def test_not_reached(self):
        levels, log = (("low", ((5, 2), NONE)),), ((0, "near", ONE, (2, 1)), (0, "member", BACK, BACK))
        point = tuple((form(x, fixed=Fraction(3 * x, 4)), False) for x in (1, -1))
        self.assertEqual(ends_width(levels, log, PLAIN, point), (ONE, False))
        self.assertEqual(ends_width((("high", ((5, 2), NONE)),), log, PLAIN, point), (ONE, True))

    def test_no_greatest_one(self):
        point = ((form(1, fixed=-1), False), (form(-1, fixed=1), False))
        self.assertEqual(ends_width(LOW, ((0, "down", (1, 2), NONE), (0, "up", (3, 1), (4, 1))), PLAIN, point), ((4, 1), True))
        self.assertIsNone(ends_width(LOW, ((0, "near", ONE, (2, 1)),), PLAIN, point))
        self.assertEqual(ends_width(LOW, (), ((None,), (("pick", form(1), 0, 0),)), point), (NONE, True))

    def test_errors_and_their_order(self):
        for levels, program, wanted in ((GAPPED, ((None,), ()), CanNot), (GAPPED, PLAIN, TooMuch)):
            with self.assertRaises(wanted):
                ends_width(levels, (), program, FALSE)
        two = ((None,), PLAIN[1] + (("round", 0, "down", form(1, 1)),))
        with self.assertRaises(TooMuch):
            ends_width(LOW, (), two, FALSE)
        with self.assertRaises(CanNot):
            ends_width(LOW, (), PLAIN, FALSE)
        with self.assertRaises(CanNot):
            ends_width(LOW, ((0, "down", ONE, (2, 1)),), PLAIN, ())

    def test_at_random(self):
        rng, seen = random.Random(3), {}
        for at in range(150):
            question, chain, worths = questions.some_question(rng, at % 4 > 0, rounds=1)
            levels, log, program, facts = question
            if not program[1] or not is_bearable(levels, two_ends(levels, program)):
                continue
            ends = two_ends(levels, program)
            found, many = ends_width(*question), size(ends)
            seen[found is None or found[1]] = seen.get(found is None or found[1], 0) + 1
            for moved, _ in questions.more_runs(rng, (levels, log, ends, facts), chain, worths, 5):
                width = moved[-1] - moved[-2]
                self.assertTrue(found is None or width < quotient(found[0]) or (found[1] and width == quotient(found[0])))
            if found is not None:
                less = questions.less(many - 2, many - 1, many)
                claim = ("at least" if found[1] else "above", (found[0], less[1]))
                asked = (levels, log, ends, facts)
                self.assertTrue(questions.is_paper(asked, claim, trees(*asked, claim)))
                self.assertEqual(claim_status(*asked, ("above", claim[1])), "sure" if not found[1] else claim_status(
                    *asked, ("above", claim[1])))
                if found[1]:
                    self.assertNotEqual(claim_status(*asked, ("above", claim[1])), "sure")
        self.assertGreater(seen[True], 40)


class Choices(unittest.TestCase):
    def check_wrong(self, question, number, run):
        levels, log, program, facts = question
        _, way = questions.is_run(question, run)
        self.assertNotEqual(way[number], plays.played_exactly(program, plays.quotients(run[1]))[1][number])

    def test_ordinary(self):
        zero = ((0, "member", NONE, NONE),)
        self.assertEqual(choice_status(LOW, zero, SIGN, (), 0), "sure")
        self.assertEqual(choice_status(LOW, (), SIGN, (), 0), "some")
        self.assertEqual(sure_choices(LOW, zero, SIGN, ()), (0,))
        self.assertEqual(sure_choices(LOW, (), SIGN, ()), ())
        self.assertIsNone(wrong_choice(LOW, zero, SIGN, (), 0))
        self.check_wrong((LOW, (), SIGN, ()), 0, wrong_choice(LOW, (), SIGN, (), 0))

    def test_never(self):
        program = ((None,), (("round", 0, "down", form(1)), ("pick", form(0, 1, fixed=-1), 0, 1)))
        log = ((0, "down", (2, 1), NONE),)
        facts = (((BACK, (ONE,)), False), (((2, 1), (BACK,)), False))
        self.assertEqual(choice_status(LOW, log, program, facts, 0), "never")
        self.assertEqual(sure_choices(LOW, log, program, facts), ())
        self.check_wrong((LOW, log, program, facts), 0, wrong_choice(LOW, log, program, facts, 0))

    def test_never_by_a_value_of_0(self):
        for kind, x, y in (("up", "-1/2", 0), ("down", 0, -1), ("near", "-1/3", 0)):
            program = ((None,), (("round", 0, kind, form(1)), ("pick", form(0, 1), 0, 1)))
            facts = ((form(1, fixed=-Fraction(x)), False), (form(-1, fixed=Fraction(x)), False))
            log = ((0, kind, pair(x), pair(y)),)
            self.assertEqual(choice_status(LOW, log, program, facts, 0), "never")
            self.check_wrong((LOW, log, program, facts), 0, wrong_choice(LOW, log, program, facts, 0))

    def test_no_run(self):
        self.assertEqual(choice_status(LOW, (), SIGN, (((BACK, (NONE, NONE)), False),), 0), "none")
        self.assertEqual(sure_choices(LOW, (), SIGN, (((BACK, (NONE, NONE)), False),)), (0,))
        self.assertIsNone(wrong_choice(LOW, (), SIGN, (((BACK, (NONE, NONE)), False),), 0))
        self.assertEqual(choice_status(LOW, ((0, "up", ONE, NONE),), SIGN, (), 0), "none")

    def test_without_choices(self):
        self.assertEqual(sure_choices(LOW, (), PLAIN, ()), ())
        many = ((None,), tuple(("round", 0, "up", form(*[1] * at)) for at in range(1, 8)))
        self.assertEqual(sure_choices(GAPPED, (), many, ()), ())

    def test_no_such_choice_before_all_else(self):
        for levels, program, number in ((GAPPED, SIGN, 1), (GAPPED, SIGN, -1), (LOW, PLAIN, 0)):
            for function in (choice_status, wrong_choice):
                with self.assertRaises(NoPlace) as caught:
                    function(levels, (), program, (), number)
                self.assertEqual(caught.exception.place, number)

    def test_too_much(self):
        three = ((None,) * 3, SIGN[1][:0] + (("round", 0, "near", form(1, 1, 1)), ("least", 0, 3)))
        four = ((None,) * 4, (("round", 0, "near", form(1, 1, 1, 1)), ("least", 0, 4)))
        for levels, program in ((LOW, four), (GAPPED, SIGN)):
            for call in (lambda: choice_status(levels, (), program, (), 0), lambda: wrong_choice(levels, (), program, (), 0),
                         lambda: sure_choices(levels, (), program, ())):
                self.assertRaises(TooMuch, call)
        self.assertEqual(choice_status(LOW, (), three, (), 0), "some")
        rounds = ((None,), tuple(("round", 0, "up", form(*[1] * at)) for at in range(1, 5)) + (("least", 0, 4),))
        self.assertRaises(TooMuch, sure_choices, LOW, (), rounds, ())

    def test_least_and_greatest(self):
        program = ((None, None), (("round", 0, "near", form(1, 0)), ("round", 0, "near", form(0, 1, 0)), ("least", 2, 3)))
        self.assertEqual(choice_status(LOW, (), program, (), 0), "some")
        ordered = (((NONE, (BACK, ONE)), False),)
        self.assertEqual(choice_status(LOW, (), program, ordered, 0), "sure")
        self.assertEqual(choice_status(LOW, (), program, (((NONE, (ONE, BACK)), True),), 0), "some")

    def test_at_random(self):
        rng, seen = random.Random(4), {}
        for at in range(200):
            question, chain, worths = questions.some_question(rng, at % 3 > 0, rounds=2, choices=2)
            levels, log, program, facts = question
            many = len([step for step in program[1] if step[0] in plays.CHOICES])
            twin = exact_twin(program)
            picks = ((("pick", form(*[0] * size(twin)), 0, 0),) * 2) if many else ()
            if not is_bearable(levels, (twin[0], twin[1] + picks)) and many:
                self.assertRaises(TooMuch, sure_choices, *question)
                continue
            sure = sure_choices(*question)
            self.assertTrue(is_same(sure, tuple(number for number in range(many) if choice_status(*question, number) == "sure")))
            for number in range(many):
                status = choice_status(*question, number)
                seen[status] = seen.get(status, 0) + 1
                run = wrong_choice(*question, number)
                self.assertEqual(run is None, status == "sure")
                if run is not None:
                    self.check_wrong(question, number, run)
                self.check_played(question, number, status, chain, worths)
        self.assertTrue(seen["sure"] > 20 and seen["some"] > 20, seen)

    def check_played(self, question, number, status, chain, worths):
        _, way, _ = exact.played_in(question[0], chain, question[2], worths)
        is_right = way[number] == plays.played_exactly(question[2], worths)[1][number]
        self.assertIn(status, ("some", "sure" if is_right else "never"))


if __name__ == "__main__":
    unittest.main()
