"""Section 6: SYSTEMS, judged by elimination and by adding up what is returned."""

import random
import unittest
from fractions import Fraction
from unittest import mock

from everyformat import corners
from everyformat.errors import CanNot
from everyformat.systems import (
    closed_lot, follows, greatest, holds_at, inner, is_closing, is_greatest, is_system, solve, tight, values_of,
)
from tests import judges
from tests.helpers import ODD_THINGS, badly_reduced, is_same, nearly
from tests.judges import pair, pairs, quotient

NONE, ONE, BACK, HALF = (0, 1), (1, 1), (-1, 1), (1, 2)
X, Y = (NONE, (ONE, NONE)), (NONE, (NONE, ONE))
THREE = ((X, False), ((NONE, (BACK, ONE)), True), (((4, 1), (BACK, BACK)), False))
MORE = THREE + ((((-2, 1), (ONE, NONE)), False),)
BIG = 10 ** 30


def some_fraction(rng, size):
    if rng.random() < 0.3:
        return Fraction(0)
    return Fraction(rng.randint(-size, size), rng.choice([1, 1, 1, 2, 3]))


def some_system(rng, many, length, size, is_through_one_point):
    """Pairs at random; or such that most of them are 0 at the same FRACTIONS."""
    at = [some_fraction(rng, size) for _ in range(many)]
    often = rng.choice([0, 0.3, 0.6])
    system = []
    for _ in range(length):
        factors = [some_fraction(rng, size) for _ in range(many)]
        fixed = some_fraction(rng, size)
        if is_through_one_point:
            fixed = -sum(x * y for x, y in zip(factors, at)) + rng.choice([0, 0, 0, 0, 1])
        system.append(((pair(fixed), pairs(*factors)), rng.random() < often))
    return tuple(system)


def some_samples(seed, many):
    rng = random.Random(seed)
    for _ in range(many):
        unknowns = rng.randint(0, 4)
        length = rng.randint(0, 7 if unknowns < 3 else 6)
        size = rng.choice([1, 2, 5])
        system = some_system(rng, unknowns, length, size, rng.random() < 0.5)
        yield system, (pair(some_fraction(rng, size)), pairs(*[some_fraction(rng, size) for _ in range(unknowns)]))


class Judged(unittest.TestCase):
    """Checks of what is returned, that do not ask the package."""

    def check_solved(self, system, many, has_point):
        word, found = solve(system, many)
        self.assertEqual(word, "point" if has_point else "closed")
        self.assertTrue(all(judges.pair(quotient(x)) == x for x in found))
        if has_point:
            self.assertEqual(len(found), many)
            self.assertTrue(judges.is_point(system, found))
        else:
            self.assertTrue(judges.closes(system, found, many))
            self.assertIs(is_closing(system, found), True)

    def check_greatest(self, form, system, many, found):
        """Adds up what the document says of each of the three."""
        if found[0] == "endless":
            _, worths, way = found
            slopes = [sum(quotient(x) * quotient(y) for x, y in zip(one[1], way)) for one, _ in system]
            self.assertTrue(judges.is_point(system, worths) and all(slope >= 0 for slope in slopes))
            self.assertGreater(sum(quotient(x) * quotient(y) for x, y in zip(form[1], way)), 0)
            self.assertEqual((len(worths), len(way), len(found)), (many, many, 3))
            return
        worth, weights = found[1], found[2]
        self.assertTrue(len(weights) == len(system) and all(quotient(weight) >= 0 for weight in weights))
        total = judges.weighed(system, weights, many)
        total = [x + quotient(y) for x, y in zip(total, [form[0]] + list(form[1]))]
        self.assertEqual(total, [quotient(worth)] + [0] * many)
        is_open = any(strict and quotient(weight) > 0 for (_, strict), weight in zip(system, weights))
        self.assertTrue(judges.is_point(system, found[3]))
        if found[0] == "reached":
            self.assertEqual(len(found), 4)
            self.assertEqual(judges.value_at(form, found[3]), quotient(worth))
        else:
            self.assertEqual((found[0], len(found), is_open), ("neared", 5, True))
            self.assertTrue(judges.is_point([(one, False) for one, _ in system], found[4]))
            self.assertEqual(judges.value_at(form, found[4]), quotient(worth))


class IsSystem(unittest.TestCase):
    def test_systems(self):
        self.assertIs(is_system((), 0), True)
        self.assertIs(is_system((), 12), True)
        self.assertIs(is_system(THREE, 2), True)
        self.assertIs(is_system(THREE, 3), False)
        self.assertIs(is_system(THREE, 1), False)
        self.assertIs(is_system((((ONE, ()), True),), 0), True)
        self.assertIs(is_system(THREE * 400, 2), True)
        self.assertIs(is_system([], 0), False)

    def test_nearly_systems(self):
        for thing in nearly(THREE) + badly_reduced(THREE, (0, 0, 0)) + badly_reduced(THREE, (2, 0, 1, 1)):
            self.assertIs(is_system(thing, 2), False, thing)

    def test_odd_things(self):
        for thing in ODD_THINGS:
            self.assertIs(is_system(thing, 0), is_same(thing, ()))


class SmallSystems(Judged):
    def test_solve_and_lots(self):
        for system, form in some_samples(1, 300):
            many = len(form[1])
            has_point = judges.has_point(system, many)
            self.check_solved(system, many, has_point)
            if has_point:
                with self.assertRaises(CanNot):
                    closed_lot(system, many)
            else:
                self.check_lot(system, many, closed_lot(system, many))

    def check_lot(self, system, many, lot):
        self.assertEqual(lot, tuple(sorted(set(lot))))
        self.assertLessEqual(len(lot), many + 1)
        self.assertTrue(all(0 <= place < len(system) for place in lot))
        pairs_of_lot = [system[place] for place in lot]
        self.assertFalse(judges.has_point(pairs_of_lot, many))
        for place in range(len(lot)):
            self.assertTrue(judges.has_point(pairs_of_lot[:place] + pairs_of_lot[place + 1:], many))

    def test_greatest_and_values(self):
        for system, form in some_samples(2, 300):
            many = len(form[1])
            values, found = judges.values(form, system, many), greatest(form, system, many)
            self.assertTrue(is_same(values_of(form, system, many), values))
            self.assertIs(is_greatest(form, system, found), values is not None)
            if values is None:
                self.assertIsNone(found)
            else:
                self.check_greatest(form, system, many, found)
                self.assertEqual(found[0] == "endless", values[2] is None)
                self.assertEqual(found[0] == "reached", values[3])
                self.assertTrue(found[0] == "endless" or found[1] == values[2])

    def test_follows(self):
        for system, form in some_samples(3, 200):
            many = len(form[1])
            values = judges.values(form, system, many)
            for strict in (False, True):
                self.assertIs(follows(system, form, strict, many), self.must_follow(values, strict))

    def must_follow(self, values, strict):
        if values is None:
            return True
        if values[0] is None:
            return False
        low = quotient(values[0])
        return low > 0 or (low == 0 and not (strict and values[1]))

    def test_tight_and_inner(self):
        for system, form in some_samples(4, 200):
            many = len(form[1])
            if judges.has_point(system, many):
                self.check_tight(system, many)
            else:
                for function in (tight, inner):
                    with self.assertRaises(CanNot):
                        function(system, many)

    def check_tight(self, system, many):
        zero = (NONE, True, NONE, True)
        places = [place for place, (form, strict) in enumerate(system)
                  if not strict and judges.values(form, system, many) == zero]
        self.assertTrue(is_same(tight(system, many), tuple(places)))
        worths = inner(system, many)
        self.assertTrue(len(worths) == many and judges.is_point(system, worths))
        for place, (form, _) in enumerate(system):
            self.assertEqual(judges.value_at(form, worths) > 0, place not in places)


class ByLeastPlaces(SmallSystems):
    """The same, by the choice that is made when a search is long."""

    def setUp(self):
        patch = mock.patch.object(corners, "PATIENCE", -1)
        patch.start()
        self.addCleanup(patch.stop)


class Edges(Judged):
    def test_no_pairs(self):
        for many in (0, 1, 12):
            self.check_solved((), many, True)
            self.assertIs(holds_at((), (NONE,) * many), True)
            with self.assertRaises(CanNot):
                closed_lot((), many)
            self.assertEqual(tight((), many), ())
            self.assertEqual(len(inner((), many)), many)
            form = ((3, 1), (NONE,) * many)
            self.assertEqual(greatest(form, (), many)[:3], ("reached", (3, 1), ()))
            self.assertEqual(values_of(form, (), many), ((3, 1), True, (3, 1), True))
        self.assertEqual(greatest(X, (), 2)[0], "endless")
        self.check_greatest(X, (), 2, greatest(X, (), 2))
        self.assertEqual(values_of(X, (), 2), (None, False, None, False))
        self.assertIs(is_closing((), ()), False)
        self.assertIs(follows((), X, False, 2), False)
        self.assertIs(follows((), (NONE, (NONE, NONE)), False, 2), True)
        self.assertIs(follows((), (NONE, (NONE, NONE)), True, 2), False)

    def test_no_unknowns(self):
        zero, above, below = (NONE, ()), (ONE, ()), (BACK, ())
        for system in (((zero, False),), ((above, True),), ((zero, False), (above, False))):
            self.check_solved(system, 0, True)
            self.assertEqual(inner(system, 0), ())
        for system, lot in ((((zero, True),), (0,)), (((above, True), (below, False)), (1,))):
            self.check_solved(system, 0, False)
            self.assertEqual(closed_lot(system, 0), lot)
            self.assertIsNone(greatest(above, system, 0))
            self.assertIsNone(values_of(above, system, 0))
            self.assertIs(follows(system, below, True, 0), True)
        self.assertEqual(tight(((zero, False), (above, False), (zero, False)), 0), (0, 2))
        self.assertEqual(greatest(below, ((zero, False),), 0), ("reached", BACK, (NONE,), ()))
        self.assertIs(holds_at(((zero, True),), ()), False)
        self.assertIs(holds_at(((zero, False),), ()), True)

    def test_strict_and_not(self):
        less, most = (NONE, (BACK,)), (NONE, (ONE,))
        for one in (False, True):
            for other in (False, True):
                system = ((most, one), (less, other))
                self.check_solved(system, 1, not one and not other)
        self.assertEqual(values_of(most, ((most, True), ((ONE, (BACK,)), False)), 1), (NONE, False, ONE, True))
        self.assertEqual(values_of(most, ((most, False), ((NONE, (BACK,)), False)), 1), (NONE, True, NONE, True))

    def test_the_same_pair_again_and_again(self):
        for strict in (False, True):
            system = ((Y, strict),) * 60 + (((ONE, (NONE, BACK)), strict),) * 60
            self.check_solved(system, 2, True)
            self.assertEqual(values_of(Y, system, 2), (NONE, not strict, ONE, not strict))
        system = (((ONE, (NONE, BACK)), False),) * 60 + (((BACK, (NONE, ONE)), False),) * 60
        self.assertEqual(tight(system, 2), tuple(range(120)))


class IsClosing(unittest.TestCase):
    def test_weights(self):
        self.assertIs(is_closing(MORE, (NONE, ONE, ONE, (2, 1))), True)
        self.assertIs(is_closing(MORE, (NONE, (5, 2), (5, 2), (5, 1))), True)
        for wrong in ((NONE, ONE, ONE, ONE), (NONE, NONE, NONE, NONE), (ONE, ONE, ONE, ONE),
                      (BACK, ONE, ONE, (1, 1)), (NONE, BACK, BACK, (-2, 1)), (NONE, ONE, ONE),
                      (NONE, NONE, NONE, ONE), (NONE, ONE, NONE, NONE)):
            self.assertIs(is_closing(MORE, wrong), False)

    def test_below_zero_or_strict(self):
        form, less = (NONE, (ONE,)), (NONE, (BACK,))
        self.assertIs(is_closing(((form, False), (less, False)), (ONE, ONE)), False)
        self.assertIs(is_closing(((form, False), (less, True)), (ONE, ONE)), True)
        self.assertIs(is_closing(((form, False), (less, False), ((BACK, (NONE,)), False)), (ONE, ONE, ONE)), True)
        self.assertIs(is_closing(((form, True), ((ONE, (BACK,)), False)), (ONE, ONE)), False)
        zero = (NONE, (NONE,))
        self.assertIs(is_closing(((zero, True), (zero, False)), (NONE, ONE)), False)
        self.assertIs(is_closing(((zero, True), (zero, False)), (ONE, NONE)), True)

    def test_nearly_weights(self):
        weights = (NONE, ONE, ONE, (2, 1))
        for thing in nearly(weights) + badly_reduced(weights, (1,)) + badly_reduced(weights, (3,)) + ODD_THINGS:
            self.assertIs(is_closing(MORE, thing), False)
        self.assertIs(is_closing(MORE, weights + (NONE,)), False)
        self.assertIs(is_closing((((BACK, ()), False),), [ONE]), False)


class IsGreatest(unittest.TestCase):
    reached = ("reached", (4, 1), (ONE, NONE, ONE), (NONE, (4, 1)))
    neared = ("neared", (2, 1), (NONE, HALF, HALF), (NONE, ONE), ((2, 1), (2, 1)))
    endless = ("endless", (NONE, ONE), (NONE, ONE))

    def test_the_three(self):
        self.assertIs(is_greatest(Y, THREE, self.reached), True)
        self.assertIs(is_greatest(X, THREE, self.neared), True)
        self.assertIs(is_greatest(Y, THREE[:2], self.endless), True)
        self.assertIs(is_greatest(Y, THREE[:2], ("endless", (NONE, (7, 1)), (ONE, (5, 1)))), True)

    def test_wrong_in_what_is_said(self):
        wrong = [
            (Y, THREE, ("reached", (4, 1), (ONE, NONE, ONE), (NONE, (3, 1)))),
            (Y, THREE, ("reached", (5, 1), (ONE, NONE, ONE), (NONE, (5, 1)))),
            (Y, THREE, ("reached", (3, 1), (ONE, NONE, ONE), (NONE, (3, 1)))),
            (Y, THREE, ("reached", (4, 1), (NONE, NONE, ONE), (NONE, (4, 1)))),
            (X, THREE, ("reached", (2, 1), (NONE, HALF, HALF), ((2, 1), (2, 1)))),
            (X, THREE, ("neared", (2, 1), (NONE, HALF, HALF), ((2, 1), (2, 1)), ((2, 1), (2, 1)))),
            (X, THREE, ("neared", (2, 1), (NONE, HALF, HALF), (NONE, ONE), (ONE, (2, 1)))),
            (X, THREE, ("neared", (2, 1), (NONE, HALF, HALF), (NONE, ONE), ((2, 1), (3, 1)))),
            (X, THREE, ("neared", (3, 1), (NONE, HALF, HALF), (NONE, ONE), ((2, 1), (2, 1)))),
            (Y, THREE, ("neared", (4, 1), (ONE, NONE, ONE), (NONE, (4, 1)), (NONE, (4, 1)))),
            (X, THREE, ("neared", (2, 1), (NONE, HALF, HALF), (NONE, ONE))),
            (Y, THREE[:2], ("endless", (NONE, NONE), (NONE, ONE))),
            (Y, THREE[:2], ("endless", (NONE, ONE), (NONE, NONE))),
            (Y, THREE[:2], ("endless", (NONE, ONE), (BACK, ONE))),
            (Y, THREE, ("endless", (NONE, ONE), (NONE, ONE))),
            (X, THREE[:2], ("endless", (NONE, ONE), (NONE, ONE))),
            (Y, THREE[:2], ("endless", (NONE, ONE), (NONE, ONE), ())),
            (Y, MORE, None), (Y, THREE, None), (Y, THREE, ()), (Y, THREE, "reached"), (Y, THREE, ("reached",)),
        ]
        for form, system, thing in wrong:
            self.assertIs(is_greatest(form, system, thing), False, thing)

    def test_nearly_the_three(self):
        for form, system, thing in ((Y, THREE, self.reached), (X, THREE, self.neared), (Y, THREE[:2], self.endless)):
            paths = [(1,), (2, 0), (3, 1), (4, 0)] if len(thing) > 3 else [(1, 0), (2, 1)]
            paths = [path for path in paths if path[0] < len(thing)]
            for near in nearly(thing) + [one for path in paths for one in badly_reduced(thing, path)]:
                self.assertIs(is_greatest(form, system, near), False, near)
        for thing in ODD_THINGS:
            self.assertIs(is_greatest(X, THREE, thing), False)

    def test_signs_of_weights_and_lengths(self):
        system = ((X, False), ((NONE, (BACK, NONE)), False))
        self.assertIs(is_greatest(X, system, ("reached", NONE, (NONE, ONE), (NONE, NONE))), True)
        self.assertIs(is_greatest(X, system, ("reached", NONE, (BACK, NONE), (NONE, NONE))), False)
        self.assertIs(is_greatest(X, system, ("reached", NONE, (NONE, ONE), (NONE,))), False)
        self.assertIs(is_greatest(X, system, ("reached", NONE, (NONE, ONE, NONE), (NONE, NONE))), False)
        self.assertIs(is_greatest(X, ((X, False),), ("endless", (NONE, NONE), (ONE,))), False)


class GreatSystems(Judged):
    """12 unknowns, 200 pairs, and numbers of 10^30."""

    def check_all(self, system, form, many):
        word, found = solve(system, many)
        self.check_solved(system, many, word == "point")
        most = greatest(form, system, many)
        if word == "closed":
            self.assertIsNone(most)
            lot = closed_lot(system, many)
            self.assertLessEqual(len(lot), many + 1)
            self.check_solved([system[place] for place in lot], many, False)
            for place in lot:
                self.check_solved([system[other] for other in lot if other != place], many, True)
        else:
            self.check_greatest(form, system, many, most)
            self.assertIs(is_greatest(form, system, most), True)
            low, low_in, high, high_in = values_of(form, system, many)
            ends = (None, False) if most[0] == "endless" else (most[1], most[0] == "reached")
            self.assertEqual((high, high_in), ends)
            if low is not None:
                self.check_low(system, form, many, quotient(low), low_in)
        return word, most

    def check_low(self, system, form, many, low, low_in):
        above_low = (pair(quotient(form[0]) - low), form[1])
        self.assertIs(follows(system, above_low, False, many), True)
        self.assertIs(follows(system, above_low, True, many), not low_in)
        past_low = (pair(quotient(form[0]) - low - Fraction(1, BIG)), form[1])
        self.assertIs(follows(system, past_low, False, many), False)

    def far_system(self, rng, size, room):
        at = [rng.randint(-size, size) for _ in range(12)]
        system = []
        for _ in range(200):
            factors = [rng.randint(-size, size) for _ in range(12)]
            fixed = rng.randint(0, room) - sum(x * y for x, y in zip(factors, at))
            system.append(((pair(fixed), pairs(*factors)), room > 0 and rng.random() < 0.3 and fixed != 0))
        return tuple(system), (NONE, pairs(*[rng.randint(-size, size) for _ in range(12)]))

    def test_far_from_zero(self):
        rng = random.Random(5)
        words = [self.check_all(*self.far_system(rng, size, room), 12)[0] for size, room in ((5, 9), (100, 0), (9, 3))]
        self.assertIn("point", words)

    def test_all_pairs_through_one_point(self):
        rng = random.Random(6)
        system, form = self.far_system(rng, 4, 0)
        self.assertEqual(self.check_all(system, form, 12)[0], "point")
        self.assertEqual(tight(system, 12), tuple(range(200)))
        self.check_solved([(one, True) for one, _ in system], 12, False)
        cone = [one for one, _ in system if sum(x[0] for x in one[1]) > 0]
        eased = tuple((one, True) for one in cone)
        self.assertEqual(self.check_all(eased, form, 12)[0], "point")
        self.assertEqual(tight(eased, 12), ())

    def test_a_box(self):
        units = [pairs(*[int(at == place) for at in range(12)]) for place in range(12)]
        backs = [pairs(*[-int(at == place) for at in range(12)]) for place in range(12)]
        system = tuple(((pair(place), unit), place % 2 == 0) for place, unit in enumerate(units))
        system += tuple(((pair(BIG), back), place % 3 == 0) for place, back in enumerate(backs))
        form = (ONE, pairs(*[BIG if place == 1 else 0 for place in range(12)]))
        self.assertEqual(values_of(form, system, 12), (pair(1 - BIG), True, pair(1 + BIG ** 2), True))
        form = (ONE, pairs(*[place - 5 for place in range(12)]))
        low = 1 + sum((place - 5) * (-place if place > 5 else BIG) for place in range(12))
        high = 1 + sum((place - 5) * (BIG if place > 5 else -place) for place in range(12))
        self.assertEqual(values_of(form, system, 12), (pair(low), False, pair(high), False))

    def test_numbers_of_thirty_figures(self):
        rng = random.Random(7)
        system, form = [], (pair(Fraction(1, BIG)), pairs(*[rng.randint(-BIG, BIG) for _ in range(3)]))
        for _ in range(20):
            factors = [Fraction(rng.randint(-BIG, BIG), rng.randint(1, BIG)) for _ in range(3)]
            system.append(((pair(Fraction(rng.randint(0, BIG), rng.randint(1, BIG))), pairs(*factors)), rng.random() < 0.5))
        self.assertEqual(self.check_all(tuple(system), form, 3)[0], "point")
        system += [((pair(-quotient(form[0]) - 1), tuple(pair(-quotient(x)) for x in form[1])), False)
                   for form, _ in system[:1]]
        self.assertEqual(self.check_all(tuple(system), form, 3)[0], "closed")

    def test_a_hair_apart(self):
        at_least = ((pair(Fraction(-1, BIG)), (ONE,)), False)
        at_most = ((pair(Fraction(1, BIG - 1)), (BACK,)), False)
        self.check_solved((at_least, at_most), 1, True)
        closer = ((pair(Fraction(1, BIG + 1)), (BACK,)), False)
        self.check_solved((at_least, closer), 1, False)

    def test_results_may_be_passed_in_again(self):
        system = tuple(((pair(Fraction(3, BIG - k)), pairs(Fraction(1, BIG - 7 * k), -Fraction(k, 3))), k % 2 == 0)
                       for k in range(6))
        worths = solve(system, 2)[1]
        self.assertIs(holds_at(system, worths), True)
        again = system + (((pair(-quotient(worths[0])), (ONE, NONE)), False),)
        self.check_solved(again, 2, True)


class HoldsAt(unittest.TestCase):
    def test_points(self):
        for worths, expected in ((((0, 1), ONE), True), ((ONE, ONE), False), ((BACK, ONE), False),
                                 (((2, 1), (2, 1)), False), ((NONE, (4, 1)), True), ((NONE, (5, 1)), False),
                                 (((19, 10), (21, 10)), True)):
            self.assertIs(holds_at(THREE, worths), expected)

    def test_all_of_a_grid(self):
        values = [Fraction(number, 2) for number in range(-3, 11)]
        for x in values:
            for y in values:
                expected = x >= 0 and y > x and x + y <= 4
                self.assertIs(holds_at(THREE, (pair(x), pair(y))), expected)


if __name__ == "__main__":
    unittest.main()
