"""Section 16, papers.py: STATEMENTS and their PAPERS, judged by the tests' own sums and roundings."""

import random
import unittest

from everyformat.errors import CanNot, TooMuch
from everyformat.papers import denied, is_paper, is_statement, paper, stands, told_by
from everyformat.trees import trimmed
from tests import papering
from tests.helpers import ODD_THINGS, is_same, listed, nearly, part_at, paths_of
from tests.test_alike import some_other
from tests.test_decide import some_claim

NONE, ONE, BACK, TWO = (0, 1), (1, 1), (-1, 1), (2, 1)
PLAIN, GAPPED = (("low", None),), (("low", (ONE, NONE)), ("high", None))
SEVEN = (("low", ((7, 1), NONE)),)
PROGRAM = ((0, None), (("round", 0, "near", (NONE, (NONE, ONE))),))
FACTS, CLAIM = (((NONE, (BACK, ONE)), False),), ("at least", (NONE, (BACK, NONE, ONE)))
COPY = ((0, None), (("exact", (NONE, (NONE, ONE))),))
LOG = ((0, "down", ONE, NONE), (0, "up", (8, 1), (10, 1)))
BAD = LOG + ((0, "near", (5, 1), NONE),)
NEAR = ((0, "near", ONE, NONE),)
EXAMPLES = [
    (SEVEN, ("possible", LOG)), (SEVEN, ("impossible", BAD)), (SEVEN, ("can have", LOG, ((0, (5, 1)),), ((0, (3, 1)),))),
    (SEVEN, ("cannot have", LOG, ((0, ONE),), ())), (PLAIN, ("sure", (), PROGRAM, FACTS, CLAIM)),
    (PLAIN, ("not sure", (), PROGRAM, (), CLAIM)), (PLAIN, ("drift", (), COPY, (), 2, NONE)),
    (PLAIN, ("more drift", (), PROGRAM, (), 2, (5, 1))), (PLAIN, ("alike", (), COPY, COPY, ())),
    (PLAIN, ("unlike", (), PROGRAM, COPY, ())), (GAPPED, ("same", ((1, "down"), (0, "down")), ((0, "down"),))),
    (GAPPED, ("parted", ((1, "near"), (0, "down")), ((0, "near"),))),
]
WORDS = [statement[0] for _, statement in EXAMPLES]


class Statements(unittest.TestCase):
    def test_each_kind(self):
        for levels, statement in EXAMPLES:
            self.assertIs(is_statement(levels, statement), True)
            self.assertIs(is_statement(levels, denied(statement)), True)
            self.assertIs(is_statement(listed(levels), statement), True)

    def test_nearly_statements(self):
        for levels, statement in EXAMPLES:
            for thing in nearly(statement):
                # None in the place of a level, and the other way about, is another start.
                starts = [part_at(thing, path) for path in paths_of(thing) if path[:2] == (2, 0) and len(path) == 3]
                if is_statement(levels, thing):
                    self.assertTrue(statement[0] not in ("same", "parted") and starts in ([None, None], [0, 0]), thing)

    def test_other_words(self):
        for levels, statement in EXAMPLES:
            for word in WORDS:
                fits = word in (statement[0], denied(statement)[0])
                thing = (word,) + statement[1:]
                self.assertIs(is_statement(levels, thing), fits, thing)

    def test_odd_things(self):
        for thing in ODD_THINGS + [("possible",), ("possible", (), ()), ("same", ()), ("same", (), (), ()), (["possible"], ()), ((), ())]:
            self.assertIs(is_statement(PLAIN, thing), False, thing)
        for thing in (("possible", ()), ("same", (), ()), ("can have", (), (), ()), ("sure", (), ((), ()), (), ("equal", (NONE, ())))):
            self.assertIs(is_statement(PLAIN, thing), True, thing)

    def test_what_does_not_belong_together(self):
        sure, drift, alike = EXAMPLES[4][1], EXAMPLES[6][1], EXAMPLES[8][1]
        short = ("at least", (NONE, (BACK, NONE)))
        for thing in (
            sure[:4] + (short,), sure[:4] + (("less", CLAIM[1]),), sure[:3] + ((((NONE, (BACK,)), False),), CLAIM),
            drift[:4] + (3, NONE), drift[:4] + (-1, NONE), drift[:5] + (BACK,), drift[:5] + ((2, 4),), drift[:4] + (True, NONE),
            alike[:3] + (((None, 0), ()), ()), alike[:3] + (((0,), ()), ()), ("alike", (), ((), ()), ((), ()), ()),
            ("possible", ((1, "down", ONE, NONE),)), ("can have", (), ((1, ONE),), ()), ("can have", (), (), ((-1, ONE),)),
            ("can have", (), ((0, ONE, ONE),), ()), ("same", ((1, "down"),), ()), ("same", (), ((0, "member"),)),
            ("sure", (), ((1,), ()), (), ("equal", (NONE, (ONE,)))),
            ("alike", (), ((), (("exact", (NONE, ())),)), ((), ()), ()), ("alike", (), ((), ()), ((), (("exact", (NONE, ())),)), ()),
        ):
            self.assertIs(is_statement(PLAIN, thing), False, thing)
        self.assertIs(is_statement(PLAIN, drift[:4] + (0, (10 ** 40, 7))), True)
        self.assertIs(is_statement(PLAIN, ("alike", (), ((0,), ()), ((0,), ()), ())), True)

    def test_whatever_the_bounds(self):
        many = ((None,) * 9, tuple(("round", 0, "up", (NONE, (NONE,) * (9 + at))) for at in range(30)))
        self.assertIs(is_statement(PLAIN, ("drift", (), many, (), 38, NONE)), True)
        self.assertIs(is_statement(GAPPED, ("sure", (), PROGRAM, FACTS, CLAIM)), True)
        self.assertIs(is_statement(PLAIN, ("possible", LOG * 100)), True)

    def test_denied(self):
        pairs = {"possible": "impossible", "can have": "cannot have", "sure": "not sure", "drift": "more drift",
                 "alike": "unlike", "same": "parted"}
        for word, other in pairs.items():
            self.assertEqual(denied((word, (), 1)), (other, (), 1))
            self.assertEqual(denied((other, (), 1)), (word, (), 1))
        for _, statement in EXAMPLES:
            self.assertTrue(is_same(denied(listed(denied(statement))), statement))


class Papers(unittest.TestCase):
    def check(self, levels, statement):
        """That a STATEMENT or the one that denies it stands, with a PAPER; this PAPER."""
        other = denied(statement)
        is_so = stands(levels, statement)
        self.assertIs(stands(levels, other), not is_so)
        right, wrong = (statement, other) if is_so else (other, statement)
        with self.assertRaises(CanNot):
            paper(levels, wrong)
        found = paper(levels, right)
        self.assertIs(is_paper(levels, right, found), True, (levels, right, found))
        self.assertTrue(papering.is_paper(levels, right, found), (levels, right, found))
        self.assertIs(is_paper(levels, wrong, found), False)
        self.assertEqual([told_by(levels, right, found), told_by(levels, wrong, found)], ["yes", "no"])
        return right, found

    def test_examples(self):
        for levels, statement in EXAMPLES:
            self.assertIs(stands(levels, statement), True)
            self.check(levels, statement)

    def check_changed(self, rng, levels, right, found, many):
        """That a PAPER with one thing changed is judged as the tests judge it; how often it is one still."""
        still = 0
        for _ in range(many):
            thing = papering.changed_once(rng, found)
            if thing is not None:
                wanted = papering.is_paper(levels, right, thing)
                self.assertIs(is_paper(levels, right, thing), wanted, (levels, right, thing))
                still += wanted
        return still

    def check_at_random(self, seed, many, some_statement):
        rng, seen, still = random.Random(seed), {}, 0
        for _ in range(many):
            levels, statement = some_statement(rng)
            self.assertIs(is_statement(levels, statement), True)
            right, found = self.check(levels, statement)
            seen[right[0]] = seen.get(right[0], 0) + 1
            still += self.check_changed(rng, levels, right, found, 6)
            self.assertIsNone(told_by(levels, statement, None))
            self.assertTrue(is_same(paper(levels, right), found))
        return seen, still

    def test_logs(self):
        seen, still = self.check_at_random(1, 200, papering.some_log_statement)
        self.assertTrue(seen["possible"] > 40 and seen["impossible"] > 40 and still > 20, (seen, still))

    def test_wishes(self):
        seen, still = self.check_at_random(2, 250, papering.some_wish_statement)
        self.assertTrue(seen["can have"] > 40 and seen["cannot have"] > 40 and still > 20, (seen, still))

    def test_words(self):
        seen, still = self.check_at_random(3, 150, papering.some_word_statement)
        self.assertTrue(seen["same"] > 40 and seen["parted"] > 40 and still > 20, (seen, still))

    def test_runs(self):
        seen, still = self.check_at_random(4, 260, lambda rng: papering.some_run_statement(rng, some_claim, some_other))
        self.assertTrue(len(seen) == 6 and min(seen.values()) > 12 and still > 20, (seen, still))

    def test_things_that_are_nearly_papers(self):
        for levels, statement in EXAMPLES:
            found = paper(levels, statement)
            for thing in nearly(found):
                self.assertIs(is_paper(levels, statement, thing), False, (statement, thing))
                self.assertIsNone(told_by(levels, statement, thing), (statement, thing))
            for thing in ODD_THINGS:
                self.assertIs(is_paper(levels, statement, thing), False, (statement, thing))

    def test_papers_of_others(self):
        for levels, statement in EXAMPLES:
            for others, other in EXAMPLES:
                alike = [("possible", "can have"), ("not sure", "more drift", "unlike"), ("sure", "alike")]
                if statement != other and not any(statement[0] in some and other[0] in some for some in alike):
                    self.assertIs(is_paper(levels, statement, paper(others, other)), False, (statement, other))


class Kinds(unittest.TestCase):
    def test_numbers_in_a_fault_are_of_the_log_of_the_lot(self):
        log = ((0, "member", ONE, ONE), (0, "down", (5, 1), NONE), (0, "member", (3, 1), (3, 1)))
        statement = ("impossible", log)
        for thing, wanted in ((((1, 2), ("inside", 1, 0)), True), (((1, 2), ("inside", 2, 1)), False), (((0, 1), ("inside", 0, 1)), True),
                              (((0, 1, 2), ("inside", 2, 1)), False), (((1,), ("way", 0)), False), (((2, 1), ("inside", 0, 1)), False),
                              (((1, 3), ("inside", 1, 0)), False), (((1, 2), ("inside", 1, 1)), False)):
            self.assertIs(is_paper(PLAIN, statement, thing), wanted, thing)

    def test_lots_of_at_most_so_many_rows(self):
        bar = (NONE, False, (10, 1), False)
        for lot, wanted in (((2,), True), ((0, 2), True), ((1, 2), True), ((0, 1), False), ((0, 1, 2), False)):
            found = ("long", 0, (NONE, False, (10, 1), False))
            self.assertIs(is_paper(SEVEN, ("impossible", BAD), (lot, found)), wanted, lot)
        two = SEVEN + PLAIN
        self.assertIs(is_paper(two, ("impossible", BAD), ((0, 1, 2), ("long", 0, bar))), True)

    def test_reasons_against_wishes(self):
        statement = ("cannot have", NEAR, ((0, (5, 1)), (0, ONE)), ((0, (5, 1)), (0, NONE), (0, (3, 1))))
        for thing, wanted in (
            (("shut", 1), True), (("shut", 0), False), (("told", 0), True), (("told", 1), True), (("told", 2), False),
            (("shut", 2), False), (("told", 3), False), (("told", -1), False), (("fault", ("way", 0)), False), (("shut", True), False),
            (("long", 0, (NONE, False, TWO, False)), False), (("fits", 0), False),
        ):
            self.assertIs(is_paper(PLAIN, statement, thing), wanted, thing)

    def test_long_ones(self):
        levels = (("low", (TWO, NONE)),)
        statement = ("cannot have", NEAR, (), ((0, TWO), (0, (5, 1))))
        self.assertIs(stands(levels, statement), True)
        for thing, wanted in ((("long", 0, (NONE, False, TWO, True)), True), (("long", 0, (NONE, False, TWO, False)), False),
                              (("long", 0, ((5, 1), True, (5, 1), True)), False), (("long", 1, (NONE, False, TWO, True)), False),
                              (("long", 0, (NONE, 0, TWO, 1)), False), (("long", False, (NONE, False, TWO, True)), False)):
            self.assertIs(is_paper(levels, statement, thing), wanted, thing)

    def test_narrower_members_of_others(self):
        statement = ("cannot have", (), ((0, ONE),), ((1, ONE), (0, TWO)))
        self.assertIs(is_paper(PLAIN * 2, statement, ("told", 0)), True)
        self.assertIs(is_paper(PLAIN * 2, ("cannot have", (), ((1, ONE),), ((0, ONE),)), ("told", 0)), False)
        wide = ("can have", (), ((1, ONE),), ((0, ONE),))
        self.assertIs(stands(PLAIN * 2, wide), True)

    def test_an_impossible_log_has_nothing(self):
        statement = ("cannot have", BAD, (), ())
        self.assertIs(stands(SEVEN, statement), True)
        self.assertEqual(paper(SEVEN, statement)[0], "fault")
        self.assertIs(stands(SEVEN, denied(statement)), False)
        for word in ("sure", "drift", "alike"):
            statement = {"sure": ("sure", BAD, PROGRAM, (), CLAIM), "drift": ("drift", BAD, PROGRAM, (), 2, NONE),
                         "alike": ("alike", BAD, PROGRAM, COPY, ())}[word]
            self.assertIs(stands(SEVEN, statement), True)
            self.assertIs(is_paper(SEVEN, statement, paper(SEVEN, statement)), True)
            self.assertIs(stands(SEVEN, denied(statement)), False)
        sure = ("sure", BAD, PROGRAM, (), CLAIM)
        for thing, wanted in (((("fault", ("inside", 0, 2)),), False), ((("fault", ("long", 0, (NONE, False, (10, 1), False))),), True),
                              ((("faults", ("long", 0, (NONE, False, (10, 1), False))),), False)):
            self.assertIs(is_paper(SEVEN, sure, thing), wanted)

    def test_run_papers(self):
        chain = ((TWO, ONE), (((NONE, ONE), ()),))
        statement = ("not sure", (), PROGRAM, (), CLAIM)
        for run, wanted in (((chain, (ONE, NONE)), True), ((chain, (NONE, ONE)), False), ((chain, ((1, 2), NONE)), False),
                            ((chain, (ONE,)), False), ((chain, (ONE, NONE, NONE)), False), ((chain, ((3, 1), BACK)), True)):
            self.assertIs(is_paper(PLAIN, statement, run), wanted, run)
        self.assertIs(is_paper(PLAIN, ("not sure", (), PROGRAM, FACTS, CLAIM), (chain, (ONE, NONE))), False)
        self.assertIs(is_paper(PLAIN, ("not sure", ((0, "member", (1, 2), (1, 2)),), PROGRAM, (), CLAIM), (chain, (ONE, NONE))), False)
        gap = (("low", ((1, 2), NONE)),)
        self.assertIs(is_paper(gap, statement, (chain, (ONE, NONE))), False)

    def test_drifts(self):
        half = (((NONE, (NONE, ONE)), False), ((ONE, (NONE, BACK)), False))
        log = ((0, "member", NONE, NONE), (0, "member", ONE, ONE))
        for worth, wanted in (((1, 2), True), ((499, 1000), False), (ONE, True), (NONE, False)):
            self.assertIs(stands(PLAIN, ("drift", log, PROGRAM, half, 2, worth)), wanted)
        found = paper(PLAIN, ("drift", log, PROGRAM, half, 2, ONE))
        self.assertIs(is_paper(PLAIN, ("drift", log, PROGRAM, half, 2, ONE), found[::-1]), False)
        self.assertIs(is_paper(PLAIN, ("drift", log, PROGRAM, half, 2, ONE), found[:1]), False)
        self.assertIs(stands(PLAIN, ("drift", (), PROGRAM, (), 0, NONE)), True)

    def test_words(self):
        statement = ("same", ((0, "down"), (1, "up")), ((1, "down"), (0, "down")))
        self.assertEqual(paper(GAPPED, statement), ((0, "down"),))
        for thing in (statement[1], ((1, "down"),), ((False, "down"),), ()):
            self.assertIs(is_paper(GAPPED, statement, thing), False)
        for thing in (((0, "down"),), ((0, "up"),), ()):
            self.assertIs(is_paper(GAPPED, ("same", ((0, "down"),), ((0, "up"),)), thing), False)
        narrow = ("parted", ((0, "down"),), ((0, "up"),))
        wide = ((TWO, ONE), (((NONE,), ()), ((), ())))
        self.assertIs(is_paper(PLAIN * 2, narrow, (wide, ONE)), True)
        self.assertIs(is_paper(GAPPED, narrow, (wide, ONE)), False)
        self.assertIs(is_paper(PLAIN * 2, narrow, (wide, NONE)), False)

    def test_trimmed_trees_are_papers(self):
        statement = EXAMPLES[4][1]
        short = trimmed(PLAIN, (), PROGRAM, FACTS, paper(PLAIN, statement))
        self.assertIs(is_paper(PLAIN, statement, short), True)

    def test_too_much_first(self):
        many = ((None,), tuple(("round", 0, "up", (NONE, (ONE,) * at)) for at in range(1, 5)))
        two = ((None,) * 3, tuple(("least", 0, at) for at in range(3)))
        claim = ("equal", (NONE, (NONE,) * 5))
        for levels, statement in (
            (PLAIN, ("sure", (), many, (), claim)), (GAPPED, ("sure", (), PROGRAM, FACTS, CLAIM)), (PLAIN, ("drift", (), two, (), 1, NONE)),
            (PLAIN, ("alike", (), (many[0], many[1][:2]), (many[0], many[1][:2]), ())), (GAPPED, ("alike", (), COPY, COPY, ())),
        ):
            for asked in (statement, denied(statement)):
                for call in (lambda: stands(levels, asked), lambda: paper(levels, asked), lambda: is_paper(levels, asked, None),
                             lambda: told_by(levels, asked, 7)):
                    self.assertRaises(TooMuch, call)
        self.assertIs(stands(PLAIN, ("sure", (), two, (), ("at least", (NONE, (ONE, NONE, NONE, BACK, NONE, NONE))))), True)
        self.assertIs(stands(GAPPED, ("possible", ())), True)

    def test_paths_of_papers(self):
        self.assertGreater(len(paths_of(paper(PLAIN, EXAMPLES[4][1]))), 5)


if __name__ == "__main__":
    unittest.main()
