"""Section 20, passings.py: WORDS, judged by FRACTIONS that the test passes on itself."""

import itertools
import random
import unittest

from everyformat.chains import is_chain
from everyformat.errors import NoPlace
from everyformat.passings import (
    above_chain, all_reduced, is_same, is_word, never_above, parting_chain, passed_on, passing_log, reduced, turned_word,
)
from tests import exact, formats, grids, helpers, questions
from tests.helpers import ODD_THINGS, nearly
from tests.judges import pair, quotient

KINDS = ("down", "up", "near")
SIDES = ("low", "high")
LOW, HIGH = ("low", None), ("high", None)


def word(text):
    """A WORD by a text such as 2down 1near."""
    return tuple((int(part[0]), part[1:]) for part in text.split())


def some_word(rng, levels, most=6):
    return tuple((rng.randrange(levels), rng.choice(KINDS)) for _ in range(rng.randint(0, most)))


def is_reduced(given):
    falls = all(one[0] > two[0] for one, two in zip(given, given[1:]))
    return falls and not any(one[1] == two[1] != "near" for one, two in zip(given, given[1:]))


def every_word(levels, most):
    pairs = [(level, kind) for level in range(levels) for kind in KINDS]
    return [given for many in range(most + 1) for given in itertools.product(pairs, repeat=many)]


def led(levels, members, given, x):
    """What x is passed on to among members, an ascending list for each level."""
    for level, kind in given:
        x = grids.rounded(levels, members[level], level, kind, x)
    return x


def some_view(rng, levels, size):
    """Members at even whole numbers from 0 to 2 * size, for each level, and a whole point."""
    ranks = [0] + [rng.choice(list(range(levels)) + [levels - 1, levels, levels]) for _ in range(size - 1)] + [0]
    return [[2 * at for at, rank in enumerate(ranks) if rank <= level] for level in range(levels)], rng.randint(0, 2 * size)


class Words(unittest.TestCase):
    def test_is_word(self):
        levels = (LOW, HIGH)
        for given in ((), word("0down"), word("1up 1up 0near 1down"), ((1, "near"),) * 1000):
            self.assertIs(is_word(levels, given), True)
        for given in (((2, "down"),), ((-1, "down"),), ((0, "member"),), ((0, "low"),), ((0,),), ((0, "down", 1),), (0, "down"),
                      [(0, "down")], ([0, "down"],), ((True, "down"),), ((False, "up"),), (("0", "up"),), ((None, "up"),),
                      ((0, None),), ((0, ["up"]),), "down", ("down",), ("0d",)):
            self.assertIs(is_word(levels, given), False, given)
        for thing in ODD_THINGS:
            self.assertIs(is_word(levels, thing), thing == () and isinstance(thing, tuple), thing)

    def test_nearly_words(self):
        for thing in nearly(word("1up 0near")):
            self.assertIs(is_word((LOW, HIGH), thing), thing == (), thing)

    def test_reduced(self):
        for given, wanted in (
            ("", ""), ("0up", "0up"), ("1up 1near", "1up"), ("0up 1near", "0up"), ("1up 0up", "0up"), ("1down 0down", "0down"),
            ("1near 0near", "1near 0near"), ("1down 0up", "1down 0up"), ("2down 1down 0down", "0down"),
            ("2up 1down 0down", "2up 0down"), ("1up 1near 0up 2down", "0up"), ("2down 2up 1down", "1down"),
            ("2near 1up 2down 0up", "2near 0up"), ("0down 0down", "0down"), ("3down 2up 1up 0down", "3down 1up 0down"),
        ):
            self.assertEqual(reduced(word(given)), word(wanted))

    def test_each_word_has_one_reduced_one(self):
        for given in every_word(2, 4):
            found = reduced(given)
            self.assertTrue(is_reduced(found))
            self.assertEqual(reduced(found), found)
            self.assertIs(is_same(given, found), True)

    def test_all_reduced(self):
        self.assertEqual(all_reduced(0), [()])
        self.assertEqual(all_reduced(1), [(), word("0down"), word("0near"), word("0up")])
        for many in range(5):
            wanted = [given for given in every_word(many, many) if is_reduced(given)] if many < 4 else None
            found = all_reduced(many)
            self.assertTrue(wanted is None or found == sorted(wanted))
        self.assertEqual([len(all_reduced(many)) for many in range(6)], [1, 4, 14, 48, 164, 560])
        five = all_reduced(5)
        self.assertTrue(all(one < two for one, two in zip(five, five[1:])) and all(is_reduced(given) for given in five))

    def test_turned_word(self):
        self.assertEqual(turned_word(word("2down 1near 1up 0up")), word("2up 1near 1down 0down"))
        self.assertEqual(turned_word(()), ())
        self.assertEqual(turned_word(((-3, "down"), (9, "near"))), ((-3, "up"), (9, "near")))

    def test_words_of_no_levels_in_particular(self):
        self.assertEqual(reduced(((-1, "up"), (-2, "up"), (7, "down"))), ((-2, "up"),))
        self.assertIs(is_same(((40, "near"),), ((40, "near"), (41, "up"))), True)

    def test_is_same(self):
        for one, two, wanted in (
            ("", "", True), ("0down", "", False), ("1near 0down", "0near", False), ("1down 0down", "0down", True),
            ("0down 1up", "0down", True), ("1near 0near", "0near", False), ("1up 0down", "0down", False),
        ):
            self.assertIs(is_same(word(one), word(two)), wanted)
            self.assertIs(is_same(word(two), word(one)), wanted)

    def test_twenty_pairs(self):
        long = word("4near 4down") + word("3up 2up 1near 0near") * 4 + word("0down 1up")
        self.assertEqual(len(long), 20)
        self.assertEqual(reduced(long), word("4near 2up 1near 0near"))


class Passing(unittest.TestCase):
    def test_ordinary(self):
        chain = (((6, 1), (4, 1)), ((((0, 1), (5, 1)), ()), (((2, 1), (3, 1)), ())))
        for given, x, wanted in (("", 1, 1), ("0up", 1, 5), ("1up", 1, 2), ("1up 0near", 1, 0), ("1up 0up", 1, 5), ("0up 1down", 1, 5),
                                 ("1near", "5/2", 2), ("1near 0near", "13/5", 5), ("0near", "5/2", 5), ("0down", -7, -10)):
            self.assertEqual(passed_on((HIGH, LOW), chain, word(given), pair(x)), pair(wanted))

    def test_logs(self):
        chain = (((6, 1), (4, 1)), ((((0, 1), (5, 1)), ()), (((2, 1), (3, 1)), ())))
        self.assertEqual(passing_log((HIGH, LOW), chain, word("1up 0near 1down"), (1, 1)),
                         ((1, "up", (1, 1), (2, 1)), (0, "near", (2, 1), (0, 1)), (1, "down", (0, 1), (0, 1))))
        self.assertEqual(passing_log((HIGH, LOW), chain, (), (1, 1)), ())

    def test_at_random(self):
        rng = random.Random(1)
        for _ in range(300):
            levels, chain, members = formats.some_chain(rng)
            given, x = some_word(rng, len(levels), 8), formats.some_point(rng, members[-1])
            rows = passing_log(levels, chain, given, pair(x))
            self.assertEqual([row[:2] for row in rows], list(given))
            at = x
            for level, kind, point, result in rows:
                self.assertEqual(quotient(point), at)
                at = exact.round_in(levels, chain, level, kind, at)
                self.assertEqual(quotient(result), at)
            self.assertEqual(passed_on(levels, chain, given, pair(x)), pair(at))

    def test_the_same_words_pass_on_alike(self):
        rng, differ = random.Random(2), set()
        asked = every_word(3, 2) + all_reduced(3)
        for _ in range(400):
            sides = tuple((rng.choice(SIDES), None) for _ in range(3))
            members, x = some_view(rng, 3, rng.randint(2, 9))
            found = {given: led(sides, members, given, x) for given in asked}
            for given in asked:
                self.assertEqual(found[given], led(sides, members, reduced(given), x))
            differ |= {(one, two) for one, two in itertools.combinations(all_reduced(3), 2) if found[one] != found[two]}
        self.assertEqual(len(differ), 48 * 47 // 2)

    def test_no_such_level_before_all_else(self):
        levels, chain = (LOW, HIGH), (((2, 1), (1, 1)), (((), ()), ((), ())))
        for given, wrong in ((((0, "up"), (2, "up"), (-1, "up")), 2), (((-1, "down"),), -1), (((1, "up"), (-2, "up"), (5, "up")), -2)):
            for call in (lambda: passed_on(levels, chain, given, (0, 1)), lambda: passing_log(levels, chain, given, (0, 1)),
                         lambda: never_above(levels, given, ((7, "up"),)), lambda: above_chain(levels, (), given),
                         lambda: parting_chain(levels, given, ((9, "down"),)), lambda: never_above(levels, (), given),
                         lambda: parting_chain(levels, given, given), lambda: above_chain(levels, ((0, "up"),), given)):
                with self.assertRaises(NoPlace) as caught:
                    call()
                self.assertEqual(caught.exception.place, wrong)
        with self.assertRaises(NoPlace):
            never_above((LOW,), word("0down 1near"), ())


class NeverAbove(unittest.TestCase):
    def check_pair(self, levels, one, two, found, is_above):
        """That in a CHAIN that keeps the GAPS one leads to more than two, or just to another result."""
        chain, point = found
        self.assertTrue(is_chain(levels, chain), found)
        self.assertTrue(questions.shows(levels, chain, ()), found)
        ends = []
        for given in (one, two):
            x = quotient(point)
            for level, kind in given:
                x = exact.round_in(levels, chain, level, kind, x)
            ends.append(x)
        self.assertTrue(ends[0] > ends[1] if is_above else ends[0] != ends[1], (levels, one, two, found))

    def check_words(self, levels, one, two):
        found = above_chain(levels, one, two)
        self.assertIs(never_above(levels, one, two), found is None)
        if found is not None:
            self.check_pair(levels, one, two, found, True)
        parted = parting_chain(levels, one, two)
        self.assertEqual(parted is None, reduced(one) == reduced(two))
        if parted is not None:
            self.check_pair(levels, one, two, parted, False)
        return found is None

    def test_ordinary(self):
        both = (LOW, LOW)
        for one, two, wanted in (
            ("", "", True), ("0down", "", True), ("", "0down", False), ("", "0up", True), ("0near", "", False),
            ("0down", "0near", True), ("0near", "0up", True), ("0near", "0down", False), ("0down", "1down", True),
            ("1down", "0down", False), ("1up", "0up", True), ("0up", "1up", False), ("1near 0down", "0near", True),
            ("1near 0near", "0near", False), ("1down 0near", "0near", True), ("0near", "1up 0near", True),
        ):
            self.assertIs(never_above(both, word(one), word(two)), wanted, (one, two))

    def test_sides(self):
        halves, near = word("1near 0down"), word("0near")
        for narrow, wide in itertools.product(SIDES, repeat=2):
            levels = ((narrow, None), (wide, None))
            self.assertIs(never_above(levels, halves, near), (narrow, wide) != ("low", "high"))
            turned = ((narrow, None), (wide, None))
            self.assertIs(never_above(turned, near, word("1near 0up")), (narrow, wide) != ("high", "low"))

    def test_all_pairs_of_two_levels(self):
        some = all_reduced(2)
        gaps = [None, ((1, 3), (0, 1)), ((5, 1), (1, 2))]
        for at, sides in enumerate(itertools.product(SIDES, repeat=2)):
            levels = tuple((side, gaps[(at + place) % 3]) for place, side in enumerate(sides))
            plain = tuple((side, None) for side in sides)
            for one, two in itertools.product(some, repeat=2):
                self.assertIs(self.check_words(levels, one, two), never_above(plain, one, two))

    def test_what_is_never_above_is_never_above_in_views(self):
        rng = random.Random(3)
        some = all_reduced(3)
        for sides in itertools.product(SIDES, repeat=3):
            levels = tuple((side, None) for side in sides)
            sure = [(one, two) for one in some for two in some if one != two and never_above(levels, one, two)]
            self.assertGreater(len(sure), 250)
            for _ in range(150):
                members, x = some_view(rng, 3, rng.randint(2, 9))
                found = {given: led(levels, members, given, x) for given in some}
                for one, two in sure:
                    self.assertLessEqual(found[one], found[two], (levels, one, two))

    def test_some_pairs_of_more_levels(self):
        rng, seen = random.Random(4), {True: 0, False: 0}
        five = all_reduced(5)
        for at in range(1500):
            many = rng.randint(1, 5)
            levels = tuple((rng.choice(SIDES), grids.some_gap(rng)) for _ in range(many))
            if at % 2:
                one, two = some_word(rng, many, 7), some_word(rng, many, 7)
            else:
                levels = tuple((rng.choice(SIDES), grids.some_gap(rng)) for _ in range(5))
                one, two = rng.choice(five), rng.choice(five)
            if at % 3 == 0 and one:
                place = rng.randrange(len(one) + 1)
                two = one[:place] + ((rng.randrange(len(levels)), rng.choice(KINDS)),) + one[place:]
            found = self.check_words(levels, one, two)
            seen[found] += 1
            mirrored = tuple(({"low": "high", "high": "low"}[side], gap) for side, gap in levels)
            self.assertIs(never_above(mirrored, turned_word(two), turned_word(one)), found)
        self.assertTrue(min(seen.values()) > 200, seen)

    def test_five_levels_in_views(self):
        rng, sure = random.Random(5), 0
        five = all_reduced(5)
        for _ in range(60):
            levels = tuple((rng.choice(SIDES), None) for _ in range(5))
            views = [some_view(rng, 5, rng.randint(4, 14)) for _ in range(40)]
            for _ in range(60):
                one, two = rng.choice(five), rng.choice(five)
                if one != two and never_above(levels, one, two):
                    sure += 1
                    for members, x in views:
                        self.assertLessEqual(led(levels, members, one, x), led(levels, members, two, x))
        self.assertGreater(sure, 200)

    def test_a_down_put_in_makes_less(self):
        for given in all_reduced(3):
            for place in range(len(given) + 1):
                for level in range(3):
                    for sides in ((LOW, HIGH, LOW), (HIGH, LOW, HIGH)):
                        less = given[:place] + ((level, "down"),) + given[place:]
                        more = given[:place] + ((level, "up"),) + given[place:]
                        self.assertIs(never_above(sides, less, given), True)
                        self.assertIs(never_above(sides, given, more), True)

    def test_an_order_that_stays(self):
        rng, many = random.Random(6), 0
        some = all_reduced(3)
        for sides in ((LOW, LOW, LOW), (HIGH, LOW, LOW), (LOW, HIGH, LOW), (LOW, HIGH, HIGH)):
            below = {(one, two) for one in some for two in some if never_above(sides, one, two)}
            for one, two in below:
                self.assertTrue(one == two or (two, one) not in below)
            for one, two in rng.sample(sorted(below), 120):
                extra = ((rng.randrange(3), rng.choice(KINDS)),)
                self.assertIs(never_above(sides, extra + one, extra + two), True)
                self.assertIs(never_above(sides, one + extra, two + extra), True)
                for three in some:
                    if (two, three) in below:
                        many += 1
                        self.assertIn((one, three), below)
        self.assertGreater(many, 1000)

    def test_chains_for_narrow_and_steep_gaps(self):
        for gap in (((1, 10 ** 30), (0, 1)), ((10 ** 30 - 1, 10 ** 30), (99, 100)), ((7, 1), (1, 2))):
            levels = ((LOW[0], gap), HIGH, (HIGH[0], gap))
            for one, two in (("2near 1near 0near", "0near"), ("0up", ""), ("2up 1near 0down", "0down"), ("1near 0down", "0near")):
                self.check_words(levels, word(one), word(two))
                self.check_words(levels, word(two), word(one))

    def test_twenty_pairs(self):
        rng = random.Random(7)
        for _ in range(60):
            levels = tuple((rng.choice(SIDES), grids.some_gap(rng)) for _ in range(5))
            one, two = [tuple((rng.randrange(5), rng.choice(KINDS)) for _ in range(20)) for _ in range(2)]
            self.check_words(levels, one, two)

    def test_lists_are_words_as_well(self):
        one, two = word("2near 1near 0near"), word("0near")
        found = above_chain((LOW, LOW, LOW), helpers.listed(one), helpers.listed(two))
        self.assertTrue(helpers.is_same(found, above_chain((LOW, LOW, LOW), one, two)))
        self.check_pair((LOW, LOW, LOW), one, two, found, True)


if __name__ == "__main__":
    unittest.main()
