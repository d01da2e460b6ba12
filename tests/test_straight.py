"""Section 5: FORMS."""

import random
import unittest
from fractions import Fraction

from everyformat.errors import NoPlace, Unfit
from everyformat.straight import (
    constant_form, form_at, is_form, longer_form, named_in, plus_forms, put_in, scaled_form, single_form,
    solved_for, span_of,
)
from tests.grids import is_in
from tests.helpers import ODD_THINGS, badly_reduced, is_same, nearly
from tests.judges import pair, pairs, quotient, value_at

BIG = 10 ** 30


def some_form(rng, many, size=9):
    factors = [Fraction(rng.randint(-size, size), rng.randint(1, size)) * rng.choice([0, 1, 1]) for _ in range(many)]
    return (pair(Fraction(rng.randint(-size, size), rng.randint(1, size))), pairs(*factors))


def some_worths(rng, many, size=9):
    return pairs(*[Fraction(rng.randint(-size, size), rng.randint(1, size)) for _ in range(many)])


class IsForm(unittest.TestCase):
    def test_forms(self):
        rng = random.Random(1)
        for many in (0, 1, 2, 7, 40):
            form = some_form(rng, many)
            self.assertIs(is_form(form, many), True)
            self.assertIs(is_form(form, many + 1), False)
            self.assertIs(is_form(form, many - 1), False)
        self.assertIs(is_form(((0, 1), ()), 0), True)
        self.assertIs(is_form(((2 ** 5000, 3 ** 5000), ((0, 1),)), 1), True)

    def test_nearly_forms(self):
        form = ((1, 2), ((2, 1), (-1, 3)))
        things = nearly(form) + badly_reduced(form, (0,)) + badly_reduced(form, (1, 0)) + badly_reduced(form, (1, 1))
        for thing in things + nearly(((0, 1), ()))[1:]:
            self.assertIs(is_form(thing, 2), False, thing)
        for thing in nearly(((0, 1), ())):
            self.assertIs(is_form(thing, 0), False, thing)

    def test_odd_things(self):
        for thing in ODD_THINGS:
            self.assertIs(is_form(thing, 0), is_same(thing, ((0, 1), ())))
            self.assertIs(is_form(thing, 2), False)


class Values(unittest.TestCase):
    def test_form_at(self):
        rng = random.Random(2)
        for many in (0, 1, 2, 5, 40):
            for size in (9, BIG):
                form, worths = some_form(rng, many, size), some_worths(rng, many, size)
                self.assertTrue(is_same(form_at(form, worths), pair(value_at(form, worths))))
        self.assertEqual(form_at(((0, 1), ((0, 1),)), ((7, 2),)), (0, 1))

    def test_constant_form(self):
        for many in (0, 1, 40):
            self.assertEqual(constant_form((-3, 2), many), ((-3, 2), ((0, 1),) * many))

    def test_single_form(self):
        for many in (1, 2, 40):
            for place in range(many):
                form = single_form(place, many)
                self.assertTrue(is_form(form, many))
                worths = pairs(*range(100, 100 + many))
                self.assertEqual(form_at(form, worths), (100 + place, 1))
                self.assertEqual((form[0], named_in(form)), ((0, 1), (place,)))

    def test_single_form_without_such_a_place(self):
        for place, many in ((2, 2), (-1, 2), (0, 0), (-1, 0), (40, 40), (7, 3)):
            with self.assertRaises(NoPlace) as caught:
                single_form(place, many)
            self.assertEqual(caught.exception.place, place)

    def test_sums_and_scales(self):
        rng = random.Random(3)
        for many in (0, 1, 3, 40):
            for _ in range(10):
                form, other, worths = some_form(rng, many), some_form(rng, many), some_worths(rng, many)
                x = some_worths(rng, 1)[0]
                total, scaled = plus_forms(form, other), scaled_form(form, x)
                self.assertTrue(is_form(total, many) and is_form(scaled, many))
                self.assertEqual(value_at(total, worths), value_at(form, worths) + value_at(other, worths))
                self.assertEqual(value_at(scaled, worths), value_at(form, worths) * quotient(x))
        self.assertEqual(scaled_form(((1, 2), ((3, 1),)), (0, 1)), ((0, 1), ((0, 1),)))

    def test_longer_form(self):
        form = ((1, 2), ((2, 1), (0, 1)))
        self.assertEqual(longer_form(form, 2), form)
        self.assertEqual(longer_form(form, 4), ((1, 2), ((2, 1), (0, 1), (0, 1), (0, 1))))
        self.assertEqual(longer_form(((5, 1), ()), 0), ((5, 1), ()))
        for many in (0, 1):
            with self.assertRaises(Unfit):
                longer_form(form, many)

    def test_put_in(self):
        rng = random.Random(4)
        for inner, many in ((0, 0), (0, 3), (1, 0), (2, 2), (3, 5), (40, 40)):
            form = some_form(rng, inner)
            forms = tuple(some_form(rng, many) for _ in range(inner))
            found, worths = put_in(form, forms, many), some_worths(rng, many)
            self.assertTrue(is_form(found, many))
            between = [pair(value_at(one, worths)) for one in forms]
            self.assertEqual(value_at(found, worths), value_at(form, between))

    def test_named_in(self):
        self.assertEqual(named_in(((0, 1), ())), ())
        self.assertEqual(named_in(((1, 1), ((0, 1), (0, 1)))), ())
        self.assertEqual(named_in(((0, 1), ((0, 1), (-1, 7), (0, 1), (1, 1)))), (1, 3))


class SolvedFor(unittest.TestCase):
    def test_solved(self):
        rng = random.Random(5)
        for many in (1, 2, 5, 40):
            for place in range(many):
                form = some_form(rng, many)
                if form[1][place] != (0, 1):
                    self.check_solved(rng, form, place, many)

    def check_solved(self, rng, form, place, many):
        found = solved_for(form, place)
        self.assertTrue(is_form(found, many))
        self.assertEqual(found[1][place], (0, 1))
        worths = list(some_worths(rng, many))
        worths[place] = pair(value_at(found, worths))
        self.assertEqual(value_at(form, worths), 0)
        worths[place] = pair(quotient(worths[place]) + 1)
        self.assertNotEqual(value_at(form, worths), 0)

    def test_no_such_factor_comes_first(self):
        form = ((1, 1), ((0, 1), (2, 1)))
        for place in (-1, 2, 40):
            with self.assertRaises(NoPlace) as caught:
                solved_for(form, place)
            self.assertEqual(caught.exception.place, place)
        with self.assertRaises(NoPlace):
            solved_for(((1, 1), ()), 0)
        with self.assertRaises(Unfit):
            solved_for(form, 0)


class SpanOf(unittest.TestCase):
    def test_ends(self):
        span = ((0, 1), True, (1, 1), False)
        self.assertEqual(span_of(((5, 1), ((2, 1),)), (span,)), ((5, 1), True, (7, 1), False))
        self.assertEqual(span_of(((5, 1), ((-2, 1),)), (span,)), ((3, 1), False, (5, 1), True))
        self.assertEqual(span_of(((5, 1), ((0, 1),)), (span,)), ((5, 1), True, (5, 1), True))
        self.assertEqual(span_of(((5, 1), ()), ()), ((5, 1), True, (5, 1), True))

    def test_without_ends(self):
        whole = (None, False, None, False)
        left, right = (None, False, (2, 1), True), ((2, 1), False, None, False)
        self.assertEqual(span_of(((1, 1), ((0, 1), (0, 1))), (whole, left)), ((1, 1), True, (1, 1), True))
        self.assertEqual(span_of(((1, 1), ((1, 1),)), (left,)), (None, False, (3, 1), True))
        self.assertEqual(span_of(((1, 1), ((-1, 1),)), (left,)), ((-1, 1), True, None, False))
        self.assertEqual(span_of(((1, 1), ((-1, 1),)), (right,)), (None, False, (-1, 1), False))
        self.assertEqual(span_of(((1, 1), ((1, 1), (1, 1))), (left, right)), whole)
        self.assertEqual(span_of(((1, 1), ((1, 1), (-1, 1))), (left, right)), (None, False, (1, 1), False))

    def test_one_fraction_alone(self):
        point, half_open = ((2, 1), True, (2, 1), True), ((0, 1), False, (1, 1), True)
        self.assertEqual(span_of(((0, 1), ((3, 1),)), (point,)), ((6, 1), True, (6, 1), True))
        self.assertEqual(span_of(((0, 1), ((3, 1), (1, 1))), (point, half_open)), ((6, 1), False, (7, 1), True))

    def test_values_on_a_grid(self):
        rng = random.Random(6)
        for _ in range(60):
            many = rng.randint(1, 3)
            form = (pair(rng.randint(-2, 2)), pairs(*[rng.randint(-2, 2) for _ in range(many)]))
            stretches = tuple(self.some_stretch(rng) for _ in range(many))
            self.check_grid(form, stretches, span_of(form, stretches))

    def some_stretch(self, rng):
        low, high = sorted(rng.sample(range(-3, 4), 2))
        if rng.random() < 0.2:
            return (pair(low), True, pair(low), True)
        return (pair(low), rng.random() < 0.5, pair(high), rng.random() < 0.5)

    def check_grid(self, form, stretches, span):
        """Each end that is in is a value at ends that are in; no value at the ends goes past the span."""
        values = {form[0][0]: True}
        for factor, (low, low_in, high, high_in) in zip(form[1], stretches):
            ends = [(low[0], low_in), (high[0], high_in)] if factor[0] else [(0, True)]
            sums = [(value + factor[0] * end, is_on and end_in) for value, is_on in values.items() for end, end_in in ends]
            values = {}
            for value, is_on in sums:
                values[value] = values.get(value, False) or is_on
        least, most = min(values), max(values)
        self.assertEqual(span, (pair(least), values[least], pair(most), values[most]))
        for value, is_on in values.items():
            self.assertTrue(not is_on or is_in(span, Fraction(value)))


if __name__ == "__main__":
    unittest.main()
