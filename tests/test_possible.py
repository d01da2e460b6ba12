"""Section 8: possible LOGS, judged by the FORMATS that have all that no ROW shuts out, on a fine grid."""

import random
import unittest
from fractions import Fraction
from itertools import combinations

from everyformat.errors import CanNot, NoPlace, Unfit
from everyformat.possible import (
    fault, is_fault, is_least_lot, is_possible, is_possible_lot, key_rows, least_lot, lot_bound, next_possible,
    possible_rows, sharp_log,
)
from everyformat.rows import is_levels, is_log
from tests import grids
from tests.helpers import ODD_THINGS, is_same, nearly
from tests.judges import pair, quotient

FINE = grids.fine_grid(20, 32)
QUARTERS = [Fraction(number, 4) for number in range(-80, 81)]
BIG = 10 ** 30
ONE = (("low", ((7, 1), (0, 1))),)
ROWS = ((0, "down", (5, 1), (0, 1)), (0, "member", (9, 1), (9, 1)), (0, "up", (5, 1), (8, 1)),
        (0, "member", (4, 1), (4, 1)), (0, "up", (3, 1), (2, 1)))


def wrong_way(row):
    return (row[1] == "down" and quotient(row[3]) > quotient(row[2])) or (
        row[1] == "up" and quotient(row[3]) < quotient(row[2]))


def is_let(gap, stretch):
    """Whether a BAR with two ends is let by a GAP."""
    over = -1 if gap is None else grids.excess(gap, quotient(stretch[0]), quotient(stretch[2]))
    return over < 0 or (over == 0 and not stretch[1] and not stretch[3])


def all_faults(levels, log):
    """All faults, in the order in which fault looks for them."""
    found = [("way", number) for number, row in enumerate(log) if wrong_way(row)]
    for number, row in enumerate(log):
        for other, wide in enumerate(log):
            if wide[0] >= row[0] and grids.shuts_out(levels, wide, quotient(row[3])):
                found.append(("inside", number, other))
    for level, (_, gap) in enumerate(levels):
        wide = [row for row in log if row[0] >= level]
        marks = [any(grids.shuts_out(levels, row, x) for row in wide) for x in QUARTERS]
        found += [("long", level, bar) for bar in grids.unmarked(marks, QUARTERS) if not is_let(gap, bar)]
    return found


def least_lots(levels, log):
    """All least lots, by trying all lots."""
    possible = {}
    for many in range(len(log) + 1):
        for lot in combinations(range(len(log)), many):
            less = [tuple(other for other in lot if other != number) for number in lot]
            if all(possible[one] for one in less):
                possible[lot] = not all_faults(levels, [log[number] for number in lot])
            else:
                possible[lot] = False
    return [lot for lot in possible if not possible[lot]
            and all(possible[tuple(other for other in lot if other != number)] for number in lot)]


class SmallLogs(unittest.TestCase):
    def test_possible_by_formats_on_a_grid(self):
        rng = random.Random(1)
        found = []
        for _ in range(120):
            levels, log = grids.some_log(rng, 6)
            found.append(grids.is_possible(levels, log, FINE))
            self.assertIs(is_possible(levels, log), found[-1])
        self.assertTrue(30 < sum(found) < 90)

    def test_faults(self):
        rng = random.Random(2)
        for _ in range(200):
            levels, log = grids.some_log(rng, 6)
            faults = all_faults(levels, log)
            self.assertTrue(is_same(fault(levels, log), faults[0] if faults else None))
            self.assertIs(is_possible(levels, log), not faults)
            self.check_is_fault(levels, log, faults)

    def check_is_fault(self, levels, log, faults):
        numbers = range(-1, len(log) + 1)
        things = [("way", number) for number in numbers]
        things += [("inside", number, other) for number in numbers for other in numbers]
        stretches = [one[2] for one in faults if one[0] == "long"] + [((0, 1), False, (1, 1), True)]
        things += [("long", level, one) for level in range(-1, len(levels) + 1) for one in stretches]
        for thing in things:
            self.assertIs(is_fault(levels, log, thing), thing in faults, thing)

    def test_lots(self):
        rng = random.Random(3)
        many = 0
        while many < 60:
            levels, log = grids.some_log(rng, 6)
            lots = least_lots(levels, log)
            if lots:
                many += 1
                self.check_lots(levels, log, lots)
            else:
                self.check_possible(levels, log)

    def test_lots_of_bars_that_are_too_long(self):
        rng = random.Random(8)
        sizes = []
        while len(sizes) < 40:
            levels, log = self.some_long_log(rng)
            if [one[0] for one in all_faults(levels, log)][:1] == ["long"]:
                lots = least_lots(levels, log)
                self.check_lots(levels, log, lots)
                sizes.append(len(log) - len(least_lot(levels, log)))
        self.assertGreater(len([size for size in sizes if size > 2]), 20)

    def some_long_log(self, rng):
        """Zones that mostly lie over one another, with results at both ends of 0 to 12, or in narrower zones."""
        levels = tuple((rng.choice(["low", "high"]), (pair(rng.randint(6, 11)), (0, 1))) for _ in range(rng.randint(1, 2)))
        log = []
        for _ in range(7):
            level = rng.randrange(len(levels))
            low, high = rng.randint(1, 6), rng.randint(6, 11)
            inner = rng.randint(1, 11) if level and rng.random() < 0.7 else None
            kind = rng.choice(["down", "up"])
            result = {"down": 0, "up": 12}[kind] if inner is None else inner
            shift = rng.randint(1, 5)
            point = {"down": (low, result + shift), "up": (high, result - shift)}[kind][inner is not None]
            log.append((level, kind, pair(point), pair(result)))
        return levels, tuple(log)

    def check_lots(self, levels, log, lots):
        lot = least_lot(levels, log)
        self.assertTrue(is_same(lot, tuple(lot)) and lot in lots)
        self.assertTrue(all(len(one) <= lot_bound(levels) for one in lots))
        keys = tuple(number for number in range(len(log)) if all(number in one for one in lots))
        self.assertTrue(is_same(key_rows(levels, log), keys))
        for many in range(len(log) + 1):
            for one in combinations(range(len(log)), many):
                self.assertIs(is_least_lot(levels, log, one), one in lots)
                has_least = any(set(least) <= set(one) for least in lots)
                self.assertIs(is_possible_lot(levels, log, one), not has_least)
        first = [many for many in range(len(log) + 1) if any(max(least) < many for least in lots)]
        self.assertEqual(possible_rows(levels, log), first[0] - 1)

    def check_possible(self, levels, log):
        self.assertEqual(possible_rows(levels, log), len(log))
        self.assertIs(is_least_lot(levels, log, ()), False)
        self.assertIs(is_least_lot(levels, log, tuple(range(len(log)))), False)
        for function in (least_lot, key_rows):
            with self.assertRaises(CanNot):
                function(levels, log)

    def test_next_possible(self):
        rng = random.Random(4)
        for _ in range(150):
            levels, log = grids.some_log(rng, 4)
            row = grids.some_row(rng, levels, 6)
            self.assertIs(next_possible(levels, log, row), not all_faults(levels, log + (row,)))

    def test_each_two_without_gaps(self):
        rng = random.Random(5)
        for _ in range(100):
            levels, log = grids.some_log(rng, 8)
            levels = tuple((side, None) for side, _ in levels)
            each_two = all(is_possible_lot(levels, log, lot) for lot in combinations(range(len(log)), 2))
            alone = all(is_possible_lot(levels, log, (number,)) for number in range(len(log)))
            self.assertIs(is_possible(levels, log), each_two and alone)

    def test_what_formats_round_is_possible(self):
        rng = random.Random(6)
        for _ in range(60):
            self.check_formats(rng, rng.randint(1, 3))

    def check_formats(self, rng, many):
        """Random members on a grid; the GAPS are as wide as the members leave them."""
        members = [sorted(rng.sample(FINE, 60) + [FINE[0], FINE[-1]])]
        for _ in range(many - 1):
            members.append(sorted(set(members[-1] + rng.sample(FINE, 40))))
        levels = []
        for some in members:
            worst = max(v - u for u, v in zip(some, some[1:]))
            levels.append((rng.choice(["low", "high"]), rng.choice([None, (pair(worst), (0, 1))])))
        log = []
        for _ in range(20):
            level, kind = rng.randrange(many), rng.choice(["down", "up", "near"])
            point = Fraction(rng.randint(-95, 95), rng.choice([5, 6, 7, 8]))
            result = grids.rounded(levels, members[level], level, kind, point)
            log.append((level, kind, pair(point), pair(result)))
        self.assertIs(is_possible(tuple(levels), tuple(log)), True)
        self.assertIsNone(fault(tuple(levels), tuple(log)))


class Edges(unittest.TestCase):
    def test_empty_logs(self):
        for levels in (ONE, (("high", None),) * 5):
            self.assertIs(is_possible(levels, ()), True)
            self.assertIsNone(fault(levels, ()))
            self.assertEqual(possible_rows(levels, ()), 0)
            self.assertIs(is_possible_lot(levels, (), ()), True)
            self.assertIs(is_least_lot(levels, (), ()), False)
            for function in (least_lot, key_rows):
                with self.assertRaises(CanNot):
                    function(levels, ())

    def test_excess_of_just_zero(self):
        for low_in, high_in, expected in ((False, False, True), (True, False, False), (False, True, False)):
            first = (0, "near", (2, 1), (0, 1)) if not high_in else (0, "down", (4, 1), (0, 1))
            log = (first,) if not low_in else ((0, "up", (0, 1), (4, 1)),)
            self.assertIs(is_possible((("low", ((4, 1), (0, 1))),), log), expected)
        self.assertIs(is_possible((("high", ((4, 1), (0, 1))),), ((0, "near", (2, 1), (0, 1)),)), False)
        self.assertIs(is_possible((("high", ((5, 1), (0, 1))),), ((0, "near", (2, 1), (0, 1)),)), True)

    def test_gaps_that_grow(self):
        levels = (("low", ((1, 1), (1, 2))),)
        self.assertIs(is_possible(levels, ((0, "near", (4, 1), (2, 1)),)), False)
        self.assertIs(is_possible(levels, ((0, "near", (7, 1), (4, 1)),)), False)
        self.assertIs(is_possible(levels, ((0, "near", (11, 2), (4, 1)),)), True)
        self.assertIs(is_possible(levels, ((0, "near", (-11, 2), (-4, 1)),)), False)
        self.assertIs(is_possible(levels, ((0, "near", (-11, 2), (-7, 1)),)), True)

    def test_wide_and_narrow(self):
        levels = (("low", None), ("high", None))
        shut, member = (1, "near", (3, 1), (5, 1)), (0, "member", (4, 1), (4, 1))
        self.assertEqual(fault(levels, (member, shut)), ("inside", 0, 1))
        self.assertIs(is_possible(levels, ((0,) + shut[1:], (1,) + member[1:])), True)
        self.assertIs(is_possible(levels, (shut, (0, "member", (1, 1), (1, 1)))), True)
        self.assertIs(is_possible(levels[:1], ((0,) + shut[1:], (0, "member", (1, 1), (1, 1)))), False)

    def test_a_result_in_no_zone_of_its_own(self):
        for row in ((0, "down", (5, 1), (0, 1)), (0, "up", (5, 1), (9, 1)), (0, "near", (5, 1), (5, 1))):
            self.assertIs(is_fault(ONE, (row,), ("inside", 0, 0)), False)
            self.assertIs(is_possible(ONE, (row, row)), True)

    def test_great_numbers(self):
        levels = (("low", ((BIG, 1), (0, 1))),)
        log = ((0, "down", (BIG - 1, BIG), (0, 1)), (0, "up", (BIG - 2, BIG - 1), (BIG, 1)))
        self.assertIs(is_possible(levels, log), True)
        closer = (("low", ((BIG ** 2 - 1, BIG), (0, 1))),)
        self.assertEqual(fault(closer, log), ("long", 0, ((0, 1), False, (BIG, 1), False)))
        apart = ((0, "down", (BIG - 2, BIG - 1), (0, 1)), (0, "up", (BIG - 1, BIG), (BIG, 1)))
        self.assertIs(is_possible(closer, apart), True)

    def test_sixty_rows_of_five_levels(self):
        rng = random.Random(7)
        levels = tuple((rng.choice(["low", "high"]), (pair(Fraction(20, 3)), pair(Fraction(1, 9)))) for _ in range(5))
        log = [(at % 5, "down", (2 * at + 1, 1), (2 * at, 1)) for at in range(30)]
        log += [(at % 5, "up", (2 * at + 1, 1), (2 * at + 2, 1)) for at in range(29)]
        self.assertIs(is_possible(levels, log), True)
        worse = tuple(log) + ((4, "near", (25, 1), (27, 1)),)
        self.assertEqual(fault(levels, worse)[0], "inside")
        self.assertEqual(possible_rows(levels, worse), 59)
        self.assertIn(59, key_rows(levels, worse))
        lot = least_lot(levels, worse)
        self.assertTrue(is_least_lot(levels, worse, lot) and 59 in lot and len(lot) == 2)

    def test_no_level(self):
        for level in (1, -1, 9):
            with self.assertRaises(NoPlace) as caught:
                next_possible(ONE, ROWS, (level, "down", (0, 1), (1, 1)))
            self.assertEqual(caught.exception.place, level)

    def test_no_row(self):
        for lot in ((5,), (0, 5), (-1, 0), (0, 1, 2, 3, 4, 5)):
            with self.assertRaises(Unfit):
                is_possible_lot(ONE, ROWS, lot)
        self.assertIs(is_possible_lot(ONE, ROWS, ()), True)
        self.assertIs(is_possible_lot(ONE, ROWS, (0, 1)), True)
        self.assertIs(is_possible_lot(ONE, ROWS, (4,)), False)
        with self.assertRaises(Unfit):
            is_possible_lot(ONE, (), (0,))

    def test_lot_bound(self):
        gap = ("high", ((1, 1), (0, 1)))
        none = ("low", None)
        for levels, bound in (((none,), 2), ((none,) * 5, 2), ((gap,), 2), ((gap, none), 4), ((none, gap), 2),
                              ((none, gap, none), 4), ((gap, none, gap), 6), ((none, none, gap, gap, none), 6)):
            self.assertEqual(lot_bound(levels), bound)


class Things(unittest.TestCase):
    def test_nearly_faults(self):
        for thing in (("way", 4), ("inside", 3, 0), ("long", 0, ((0, 1), False, (8, 1), False))):
            self.assertIs(is_fault(ONE, ROWS, thing), True)
            for near in nearly(thing):
                self.assertIs(is_fault(ONE, ROWS, near), False, near)
        for thing in ODD_THINGS + [("way", 0), ("way", 4, 4), ("inside", 3), ("long", 0), ("way",), ("inside", 3, 2),
                                   ("way", -1), ("inside", 3, -5), ("inside", -2, 0), ("inside", 0, 3), ("long", 0, None),
                                   ("long", 0, ((0, 2), False, (8, 1), False)), ("long", 0, ((0, 1), False, (7, 1), False)),
                                   ("long", 0, ((0, 1), True, (8, 1), False)), ("long", -1, ((0, 1), False, (8, 1), False)),
                                   ("long", 1, ((0, 1), False, (8, 1), False)), ("stray", 4), ("inside", 3, 0, 0)]:
            self.assertIs(is_fault(ONE, ROWS, thing), False)
        self.assertIs(is_fault(ONE, ROWS, ("inside", 3, 0)), True)
        self.assertIs(is_fault(ONE, ROWS[1:2] + ROWS[:1] + ROWS[3:4], ("inside", True, 1)), False)

    def test_true_is_no_number(self):
        log = (ROWS[3], ROWS[0])
        self.assertIs(is_fault(ONE, log, ("inside", 0, 1)), True)
        self.assertIs(is_fault(ONE, log, ("inside", False, True)), False)
        self.assertIs(is_fault(ONE, ROWS[:1] + ROWS[4:], ("way", 1)), True)
        self.assertIs(is_fault(ONE, ROWS[:1] + ROWS[4:], ("way", True)), False)
        self.assertIs(is_fault(ONE, (ROWS[0], ROWS[2]), ("long", False, ((0, 1), False, (8, 1), False))), False)
        self.assertIs(is_fault(ONE, (ROWS[0], ROWS[2]), ("long", 0, ((False, 1), False, (8, 1), False))), False)
        self.assertIs(is_fault(ONE, (ROWS[0], ROWS[2]), ("long", 0, ((0, 1), 0, (8, 1), 0))), False)
        self.assertIs(is_least_lot(ONE, log, (0, 1)), True)
        self.assertIs(is_least_lot(ONE, log, (False, True)), False)

    def test_nearly_least_lots(self):
        log = ROWS[:3]
        self.assertIs(is_least_lot(ONE, log, (0, 2)), True)
        for thing in nearly((0, 2)) + ODD_THINGS + [(2, 0), (0, 0, 2), (0, 2, 2), (0,), (2,), (), (0, 1, 2), (0, 3),
                                                    (-3, 2), (0, -1), (-1, 0), ((0, 2),), ((0, 1), (2, 1))]:
            self.assertIs(is_least_lot(ONE, log, thing), False)

    def test_a_let_bar_is_no_fault(self):
        log = (ROWS[0], (0, "up", (6, 1), (8, 1)))
        self.assertIsNone(fault(ONE, log))
        self.assertIs(is_fault(ONE, log, ("long", 0, ((0, 1), False, (5, 1), True))), False)
        self.assertIs(is_fault((("low", None),), ROWS[:3], ("long", 0, ((0, 1), False, (8, 1), False))), False)


class Sharp(unittest.TestCase):
    def test_sharp_logs(self):
        for many in range(1, 31):
            levels, log = sharp_log(many)
            self.assertTrue(is_levels(levels) and is_log(levels, log))
            self.assertEqual((len(levels), len(log)), (many, 2 * many))
            self.assertIs(is_possible(levels, log), False)
            self.assertIs(is_least_lot(levels, log, tuple(range(2 * many))), True)
            self.assertEqual(key_rows(levels, log), tuple(range(2 * many)))
            self.assertEqual(least_lot(levels, log), tuple(range(2 * many)))
            self.assertEqual(lot_bound(levels), 2 * many)
            self.assertEqual(possible_rows(levels, log), 2 * many - 1)

    def test_sharp_logs_by_the_judge(self):
        for many in range(1, 5):
            levels, log = sharp_log(many)
            self.assertEqual(least_lots(levels, log), [tuple(range(2 * many))])


if __name__ == "__main__":
    unittest.main()
