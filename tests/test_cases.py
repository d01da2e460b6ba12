"""Section 15, cases.py: letters are those of a run exactly if they keep a case of each CONDITION."""

import random
import unittest
from fractions import Fraction

from everyformat.cases import conditions, denials, letter_forms
from everyformat.errors import TooMuch
from tests import exact, questions
from tests.helpers import is_same
from tests.judges import is_point, pair, pairs, value_at

NONE, ONE, HALF, BACK, TWO = (0, 1), (1, 1), (1, 2), (-1, 1), (2, 1)
LOW = (("low", None),)
X, Y = (NONE, (ONE, NONE)), (NONE, (NONE, ONE))


def pairs_of(*forms):
    """A case of pairs that are not strict, of forms as lists of whole numbers."""
    return tuple(((pair(form[0]), pairs(*form[1:])), False) for form in forms)


def strictly(case, *places):
    return tuple((form, at in places) for at, (form, _) in enumerate(case))


class Letters(unittest.TestCase):
    def test_by_runs(self):
        rng = random.Random(1)
        for _ in range(200):
            (levels, _, program, _), chain, worths = questions.some_question(rng, False, 3, 2, 3)
            cells, _, _ = exact.played_in(levels, chain, program, worths)
            first = len(program[0])
            letters = [x for at, x in enumerate(cells) if at < first or program[1][at - first][0] != "exact"]
            forms = letter_forms(program)
            self.assertIs(type(forms), list)
            self.assertEqual([value_at(form, pairs(*letters)) for form in forms], cells)
            self.assertTrue(all(len(form[1]) == len(letters) for form in forms))

    def test_forms(self):
        program = ((None,), (("exact", (ONE, (TWO,))), ("round", 0, "up", (NONE, (ONE, HALF))), ("exact", (NONE, (NONE, ONE, ONE)))))
        expected = [X, (ONE, (TWO, NONE)), Y, (ONE, (TWO, ONE))]
        self.assertTrue(is_same(letter_forms(program), expected))
        self.assertEqual(letter_forms(((), ())), [])
        self.assertEqual(letter_forms(((), (("exact", (HALF, ())),))), [(HALF, ())])


class Denials(unittest.TestCase):
    def test_words(self):
        program = ((None,), (("exact", (ONE, (TWO,))),))
        form, plain, minus = (HALF, (ONE, ONE)), ((3, 2), ((3, 1),)), ((-3, 2), ((-3, 1),))
        for word, expected in (("at least", [((minus, True),)]), ("above", [((minus, False),)]),
                               ("equal", [((minus, True),), ((plain, True),)])):
            self.assertTrue(is_same(denials(program, (word, form)), expected))


class Conditions(unittest.TestCase):
    def check(self, levels, log, program, expected):
        self.assertTrue(is_same(conditions(levels, log, program), expected), conditions(levels, log, program))

    def test_steps(self):
        a, b = [0, 1, 0, 0], [0, 0, 1, 0]
        least = ((None, None), (("least", 0, 1),))
        first = pairs_of([0, -1, 1, 0], [0, -1, 0, 1], [0, 1, 0, -1])
        second = pairs_of([0, 1, -1, 0], [0, 0, -1, 1], [0, 0, 1, -1])
        self.check(LOW, (), least, [(first, second)])
        greatest = ((None, None), (("greatest", 0, 1),))
        self.check(LOW, (), greatest, [(second[:1] + first[1:], first[:1] + second[1:])])
        pick = ((None, None), (("pick", (TWO, (ONE, BACK)), 0, 1),))
        asked = pairs_of([2, 1, -1, 0]) + first[1:], strictly(pairs_of([-2, -1, 1, 0]), 0) + second[1:]
        self.check(LOW, (), pick, [asked])
        self.assertEqual((a, b), ([0, 1, 0, 0], [0, 0, 1, 0]))

    def test_down_and_up(self):
        for kind, way in (("down", 1), ("up", -1)):
            program = ((0, None), (("round", 0, kind, (NONE, (NONE, ONE))),))
            expected = [(pairs_of([0, 0, way, -way]),),
                        (pairs_of([0, -way, 0, way]), strictly(pairs_of([0, way, -way, 0]), 0))]
            self.check(LOW, (), program, expected)

    def test_near_of_both_sides(self):
        for side in ("low", "high"):
            program = ((0, None), (("round", 0, "near", (NONE, (NONE, ONE))),))
            left = (pairs_of([0, 0, -1, 1]), pairs_of([0, -1, 0, 1]), strictly(pairs_of([0, 1, -2, 1]), *[0][:side == "high"]))
            right = (pairs_of([0, 0, 1, -1]), pairs_of([0, 1, 0, -1]), strictly(pairs_of([0, -1, 2, -1]), *[0][:side == "low"]))
            self.check(((side, None),), (), program, [left, right])

    def test_rows(self):
        log = ((0, "down", (5, 1), (3, 1)), (0, "member", (7, 1), (7, 1)), (0, "near", (9, 1), (9, 1)), (0, "near", (2, 1), (1, 1)))
        program = ((0,), ())
        expected = [(pairs_of([3, -1]), strictly(pairs_of([-5, 1]), 0)), (pairs_of([1, -1]), pairs_of([-3, 1]))]
        self.check(LOW, log, program, expected)
        self.check(LOW, log, ((None,), ()), [])
        turned = ((0, "up", (5, 1), (7, 1)), (0, "near", (9, 1), (10, 1)))
        expected = [(pairs_of([-7, 1]), strictly(pairs_of([5, -1]), 0)), (pairs_of([-10, 1]), strictly(pairs_of([8, -1]), 0))]
        self.check(LOW, turned, program, expected)

    def test_order_and_levels(self):
        levels = (("low", None), ("low", None))
        log = ((0, "down", (5, 1), (3, 1)), (1, "member", (7, 1), (7, 1)))
        program = ((1, 0), (("round", 1, "down", (NONE, (ONE, NONE))), ("round", 0, "up", (NONE, (NONE, ONE, NONE)))))
        down, up = (pairs_of([0, 1, 0, -1, 0]),), (pairs_of([0, 0, -1, 0, 1]),)
        row = [(pairs_of([3] + other), strictly(pairs_of([-5] + [-x for x in other]), 0)) for other in ([0, -1, 0, 0], [0, 0, 0, -1])]
        of_down = [(pairs_of([-t[0], *[-x for x in t[1:]]][:3] + [1 - t[3], -t[4]]), strictly(pairs_of([t[0], t[1] - 1, *t[2:]]), 0))
                   for t in ([3, 0, 0, 0, 0], [7, 0, 0, 0, 0], [0, 1, 0, 0, 0], [0, 0, 1, 0, 0], [0, 0, 0, 0, 1])]
        of_up = [(pairs_of([t[0], t[1], t[2], t[3], t[4] - 1]), strictly(pairs_of([-t[0], -t[1], 1 - t[2], -t[3], -t[4]]), 0))
                 for t in ([3, 0, 0, 0, 0], [0, 0, 1, 0, 0])]
        self.check(levels, log, program, [down, up] + row + of_down + of_up)

    def test_gaps_without_a_slope(self):
        program = ((None,), (("round", 0, "down", (NONE, (ONE,))), ("round", 0, "up", (NONE, (ONE, NONE)))))
        levels = (("low", (TWO, NONE)),)
        expected = [(pairs_of([0, 1, -1, 0]),), (pairs_of([0, -1, 0, 1]),),
                    (pairs_of([0, 0, 1, -1]), strictly(pairs_of([0, -1, 0, 1]), 0)),
                    (pairs_of([0, 0, 1, -1]), strictly(pairs_of([0, 1, -1, 0]), 0)),
                    (strictly(pairs_of([2, -1, 1, 0]), 0),), (strictly(pairs_of([2, 1, 0, -1]), 0),),
                    (strictly(pairs_of([0, 0, 0, 0]), 0), pairs_of([2, 0, 1, -1]))]
        self.check(levels, (), program, expected)

    def test_gaps_with_a_slope_and_near_cells(self):
        levels = (("high", (TWO, HALF)),)
        program = ((None,), (("round", 0, "near", (NONE, (ONE,))),))
        half = Fraction(1, 2)
        left = (pairs_of([0, -1, 1]), (pairs_of([0, 0, 1])[0],) + strictly(pairs_of([2, -2, 2 + half]), 0),
                (pairs_of([0, -2, 1])[0],) + strictly(pairs_of([2, -2 - 1, 2 + half]), 0),
                pairs_of([0, 0, -1], [0, 2, -1]) + strictly(pairs_of([2, -2, 2 - half], [2, -2 + 1, 2 - half]), 0, 1))
        right = (pairs_of([0, 1, -1]), pairs_of([0, 2, -1], [2, 2 + 1, -2 - half]), pairs_of([0, 0, -1], [2, 2, -2 - half]),
                 pairs_of([0, -2, 1], [0, 0, 1], [2, 2 - 1, -2 + half], [2, 2, -2 + half]))
        self.check(levels, (), program, [left, right])

    def test_gaps_of_rows_and_cells(self):
        levels = (("low", None), ("low", ((3, 1), NONE)))
        log = ((1, "near", (2, 1), (1, 1)), (0, "up", (4, 1), (5, 1)), (1, "up", (6, 1), (8, 1)))
        program = ((), (("round", 1, "near", ((9, 2), ())),))
        row = [(pairs_of([1, -1]), pairs_of([-3, 1])), (pairs_of([-8, 1]), strictly(pairs_of([6, -1]), 0))]
        left = [(pairs_of([Fraction(-9, 2), 1]), pairs_of([-t, 1]), pairs_of([t - 9, 1])) for t in (1, 5, 8)]
        right = [(pairs_of([Fraction(9, 2), -1]), pairs_of([t, -1]), strictly(pairs_of([9 - t, -1]), 0)) for t in (1, 5, 8)]
        own = [(pairs_of([Fraction(-9, 2), 1]), pairs_of([3 - 9, 2])), (pairs_of([Fraction(9, 2), -1]), strictly(pairs_of([3 + 9, -2]), 0))]
        both = [(pairs_of([Fraction(9, 2), -1]), strictly(pairs_of([9 - 3, -1]), 0), pairs_of([3 + 1, -1])),
                (pairs_of([Fraction(-9, 2), 1]), strictly(pairs_of([6 - 9, 1]), 0), pairs_of([3 - 8, 1]))]
        expected = row[:1] + row[1:] + left + right + own + both
        found = conditions(levels, log, program)
        self.assertTrue(is_same(found, expected), [(one, two) for one, two in zip(found, expected) if one != two])

    def test_wrong_ways_have_no_zone(self):
        self.check(LOW, ((0, "down", (3, 1), (5, 1)), (0, "up", (3, 1), TWO)), ((0,), ()), [])


class Guarantee(unittest.TestCase):
    def test_letters_of_runs(self):
        """Letters at and beside those of runs: the LOG with the ROWS that they make is possible exactly if they keep all."""
        rng = random.Random(2)
        found = {True: 0, False: 0}
        for at in range(300):
            (levels, log, program, _), chain, worths = questions.some_question(rng, at % 3 > 0, 2, 1, 2, 4)
            cells, _, _ = exact.played_in(levels, chain, program, worths)
            first = len(program[0])
            letters = [x for at, x in enumerate(cells) if at < first or program[1][at - first][0] != "exact"]
            known = conditions(levels, log, program)
            for _ in range(6):
                kept = all(any(is_point(case, pairs(*letters)) for case in cases) for cases in known)
                rows, is_right = questions.letters_log(program, pairs(*letters))
                is_right = is_right and exact.is_possible(levels, log + rows)
                self.assertIs(kept, is_right, (levels, log, program, letters))
                found[kept] += 1
                if letters:
                    letters[rng.randrange(len(letters))] += Fraction(rng.randint(-8, 8), rng.choice([1, 2, 4]))
        self.assertTrue(min(found.values()) > 300, found)


class Bounds(unittest.TestCase):
    def test_too_much(self):
        gap = ("low", (ONE, NONE))
        down = ("round", 0, "down", (NONE, (ONE,)))
        longer = tuple(("round", 0, "down", (NONE, (ONE,) + (NONE,) * at)) for at in range(4))
        for levels, program, is_much in (
            ((gap,), ((None,), (down,)), False), ((gap, LOW[0]), ((), ()), True), ((gap, gap), ((None,), (down,)), True),
            ((LOW[0], gap), ((None,), (down,)), False), (LOW, ((None,), longer[:3]), False), (LOW, ((None,), longer), True),
            (LOW, ((None,) * 8, ()), False), (LOW, ((None,) * 9, ()), True), (LOW, ((None,) * 8, (("least", 0, 1),)), True),
            (LOW, ((None,) * 8, (("exact", (NONE, (ONE,) * 8)),)), False),
        ):
            if is_much:
                with self.assertRaises(TooMuch):
                    conditions(levels, (), program)
            else:
                self.assertIs(type(conditions(levels, (), program)), list)
        self.assertEqual(len(letter_forms(((None,) * 9, ()))), 9)
        self.assertEqual(len(denials(((None,), longer), ("equal", (NONE, (ONE,) * 5)))), 2)


if __name__ == "__main__":
    unittest.main()
