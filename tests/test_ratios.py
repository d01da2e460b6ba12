"""Section 4: FRACTIONS."""

import random
import unittest
from fractions import Fraction
from math import gcd

from everyformat.errors import BadLine, Unfit
from everyformat.ratios import (
    ceiling_of, floor_of, fraction, in_order, is_fraction, is_less, middle, minus, over, plus, power_of,
    ratio_by, ratio_text, sign_of, simplest_between, size_of, times, whole,
)
from tests.helpers import ODD_THINGS, badly_reduced, is_same, nearly
from tests.judges import pair, quotient

BIG = 10 ** 30
EDGES = [0, 1, -1, Fraction(1, 2), Fraction(-1, 2), Fraction(7, 3), BIG, -BIG, Fraction(1, BIG), Fraction(-1, BIG),
         Fraction(BIG - 1, BIG), Fraction(1 - BIG, BIG - 7), Fraction(BIG, 3)]


def some_fractions(seed, many):
    rng = random.Random(seed)
    found = [Fraction(edge) for edge in EDGES]
    for _ in range(many):
        size = rng.choice([3, 20, 10 ** 6, BIG])
        found.append(Fraction(rng.randint(-size, size), rng.randint(1, size)))
    return found


class IsFraction(unittest.TestCase):
    def test_fractions(self):
        for value in some_fractions(1, 50):
            self.assertIs(is_fraction(pair(value)), True)
        self.assertIs(is_fraction((2 ** 4000, 3 ** 4000)), True)

    def test_nearly_fractions(self):
        for value in ((3, 2), (0, 1), (-5, 1)):
            for thing in nearly(value) + badly_reduced(value, ()):
                self.assertIs(is_fraction(thing), False, thing)

    def test_odd_things(self):
        for thing in ODD_THINGS:
            expected = is_same(thing, (0, 1)) or is_same(thing, (10 ** 5000, 1))
            self.assertIs(is_fraction(thing), expected)

    def test_lowest_terms(self):
        for top in range(-12, 13):
            for bottom in range(-6, 13):
                self.assertIs(is_fraction((top, bottom)), bottom >= 1 and gcd(top, bottom) == 1)


class Arithmetic(unittest.TestCase):
    def test_fraction(self):
        for top in range(-12, 13):
            for bottom in [number for number in range(-12, 13) if number]:
                self.assertTrue(is_same(fraction(top, bottom), pair(Fraction(top, bottom))))
        self.assertEqual(fraction(-4 * BIG, -6 * BIG), (2, 3))
        self.assertEqual(fraction(0, -5), (0, 1))

    def test_fraction_without_bottom(self):
        for top in (0, 1, -3):
            with self.assertRaises(Unfit):
                fraction(top, 0)

    def test_whole(self):
        for number in (0, -1, 7, BIG):
            self.assertEqual(whole(number), (number, 1))

    def test_two_fractions(self):
        values = some_fractions(2, 25)
        for x in values:
            for y in values:
                self.check_two(x, y, pair(x), pair(y))

    def check_two(self, x, y, left, right):
        self.assertTrue(is_same(plus(left, right), pair(x + y)))
        self.assertTrue(is_same(minus(left, right), pair(x - y)))
        self.assertTrue(is_same(times(left, right), pair(x * y)))
        self.assertTrue(is_same(middle(left, right), pair((x + y) / 2)))
        self.assertIs(is_less(left, right), x < y)
        if y:
            self.assertTrue(is_same(over(left, right), pair(x / y)))
        else:
            with self.assertRaises(Unfit):
                over(left, right)

    def test_one_fraction(self):
        for x in some_fractions(3, 200):
            self.assertTrue(is_same(sign_of(pair(x)), (x > 0) - (x < 0)))
            self.assertTrue(is_same(size_of(pair(x)), pair(abs(x))))
            self.assertTrue(is_same(floor_of(pair(x)), x.numerator // x.denominator))
            self.assertTrue(is_same(ceiling_of(pair(x)), -(-x.numerator // x.denominator)))

    def test_powers(self):
        for x in some_fractions(4, 10):
            for many in (-200, -7, -2, -1, 0, 1, 2, 3, 16, 200):
                if x or many >= 0:
                    self.assertTrue(is_same(power_of(pair(x), many), pair(x ** many)))

    def test_powers_of_zero(self):
        self.assertEqual(power_of((0, 1), 0), (1, 1))
        self.assertEqual(power_of((0, 1), 200), (0, 1))
        for many in (-1, -2, -200):
            with self.assertRaises(Unfit):
                power_of((0, 1), many)


class Order(unittest.TestCase):
    def test_in_order(self):
        rng = random.Random(5)
        for many in (0, 1, 2, 5, 40):
            for _ in range(20):
                values = [rng.choice(some_fractions(6, 30)) for _ in range(many)]
                expected = tuple(pair(value) for value in sorted(set(values)))
                self.assertTrue(is_same(in_order(tuple(pair(value) for value in values)), expected))

    def test_neighbours_with_great_bottoms(self):
        close = [Fraction(BIG - 1, BIG), Fraction(BIG - 2, BIG - 1), Fraction(BIG - 3, BIG - 2)]
        for values in (close, close[::-1]):
            self.assertEqual(in_order(tuple(map(pair, values))), tuple(map(pair, sorted(close))))

    def test_by_quotient_not_by_top(self):
        self.assertEqual(in_order(((1, 2), (1, 3))), ((1, 3), (1, 2)))
        self.assertEqual(in_order(((-1, 3), (-1, 2), (-1, 3))), ((-1, 2), (-1, 3)))


class Simplest(unittest.TestCase):
    def plainly(self, low, high):
        """Goes through bottoms, and for each through the tops in between."""
        bottom = 1
        while True:
            first = low.numerator * bottom // low.denominator + 1
            last = -(-high.numerator * bottom // high.denominator) - 1
            if first <= last:
                return pair(Fraction(min(max(first, 0), last), bottom))
            bottom += 1

    def test_small_ones(self):
        values = sorted({Fraction(top, bottom) for bottom in range(1, 8) for top in range(-3 * bottom, 3 * bottom + 1)})
        for low in values[::3]:
            for high in values[::2]:
                if low < high:
                    self.assertEqual(simplest_between(pair(low), pair(high)), self.plainly(low, high))

    def test_random_ones(self):
        rng = random.Random(7)
        for _ in range(300):
            low = Fraction(rng.randint(-2000, 2000), rng.randint(1, 300))
            high = low + Fraction(1, rng.randint(1, 4000))
            self.assertEqual(simplest_between(pair(low), pair(high)), self.plainly(low, high))

    def test_great_bottoms(self):
        self.assertEqual(simplest_between((0, 1), (1, BIG)), (1, BIG + 1))
        self.assertEqual(simplest_between((-1, BIG), (0, 1)), (-1, BIG + 1))
        self.assertEqual(simplest_between((-1, BIG), (1, BIG)), (0, 1))
        self.assertEqual(simplest_between((BIG - 1, BIG), (1, 1)), (BIG, BIG + 1))
        one, other = Fraction(BIG - 2, BIG - 1), Fraction(BIG - 1, BIG)
        found = Fraction(one.numerator + other.numerator, one.denominator + other.denominator)
        self.assertEqual(simplest_between(pair(one), pair(other)), pair(found))

    def test_between_neighbours_on_the_way_of_halves(self):
        a, b = Fraction(1), Fraction(2)
        for turn in range(140):
            between = Fraction(a.numerator + b.numerator, a.denominator + b.denominator)
            self.assertEqual(simplest_between(pair(min(a, b)), pair(max(a, b))), pair(between))
            a, b = b, between

    def test_not_in_order(self):
        for low, high in (((1, 2), (1, 2)), ((1, 2), (1, 3)), ((0, 1), (-1, 1)), ((0, 1), (0, 1))):
            with self.assertRaises(Unfit):
                simplest_between(low, high)


class Texts(unittest.TestCase):
    def test_texts(self):
        for x in some_fractions(8, 200):
            text = str(x)
            self.assertEqual(ratio_text(pair(x)), text)
            self.assertTrue(is_same(ratio_by(text), pair(x)))

    def test_long_texts(self):
        for many in (63, 64, 65, 127, 128, 129, 600, 4299, 4300, 4301, 20000):
            self.assertEqual(ratio_text((10 ** many, 1)), "1" + "0" * many)
            self.assertEqual(ratio_text((10 ** many - 1, 1)), "9" * many)
            self.assertEqual(ratio_text((-1, 10 ** many)), "-1/1" + "0" * many)
            self.assertEqual(ratio_by("1" + "0" * many), (10 ** many, 1))
            self.assertEqual(ratio_by("-" + "9" * many), (1 - 10 ** many, 1))
            self.assertEqual(ratio_by("1/1" + "0" * many), (1, 10 ** many))

    def test_long_texts_of_all_figures(self):
        figures = "1234567890" * 900 + "7"
        number = 0
        for sign in figures:
            number = number * 10 + "0123456789".index(sign)
        self.assertEqual(ratio_text((-number, 2 ** 20000)).partition("/")[0], "-" + figures)
        self.assertEqual(ratio_by("-" + figures + "/2"), (-number, 2))

    def test_no_texts(self):
        wrong = ["", "-", "/", "1/", "/2", "-/2", "--1", "+1", " 1", "1 ", "1\n", "1.0", "01", "-01", "00", "-0",
                 "0/1", "1/1", "2/4", "3/1", "-3/1", "0/2", "-0/3", "1/0", "1/-2", "-1/-2", "1/02", "1/2/3", "1//2",
                 "a", "1a", "0x1", "1_0", "\u0661", "\u00b2", "1/\u0662", "\uff11", "4/6", "10/4", "1e3", "None",
                 "1" + "0" * 5000 + "/10", "0" * 400, "1/" + "0" * 399, "\u22121", "1\u20442"]
        for text in wrong:
            with self.subTest(text[:20]), self.assertRaises(BadLine) as caught:
                ratio_by(text)
            self.assertEqual(caught.exception.line, 1)


class KeptFractions(unittest.TestCase):
    def test_results_may_be_passed_in_again(self):
        x = power_of((7, 10), 200)
        y = times(power_of(x, 200), power_of((3, BIG), 200))
        self.assertTrue(is_fraction(y))
        self.assertEqual(quotient(y), Fraction(7, 10) ** 40000 * Fraction(3, BIG) ** 200)
        self.assertEqual(ratio_by(ratio_text(y)), y)


if __name__ == "__main__":
    unittest.main()
