"""Section 16, trees.py: leaves that are counted, and TREES trimmed by a judge that goes leaf by leaf."""

import random
import unittest

from everyformat.cases import conditions
from everyformat.decide import trees
from everyformat.errors import TooMuch
from everyformat.trees import leaves, trimmed
from tests import questions
from tests.helpers import is_same, listed
from tests.test_decide import some_claim

NONE, ONE, BACK, TWO = (0, 1), (1, 1), (-1, 1), (2, 1)
PLAIN = (("low", None),)
PROGRAM = ((0, None), (("round", 0, "near", (NONE, (NONE, ONE))),))
FACTS = (((NONE, (BACK, ONE)), False),)


def closed(*weights):
    return ("closed", tuple((x, 1) for x in weights))


def leaves_of(tree):
    return [leaf for part in tree[2] for leaf in leaves_of(part)] if tree[0] == "cases" else [tree]


def without(tree, first, last):
    if tree[0] == "cases":
        return tree[:2] + (tuple(without(part, first, last) for part in tree[2]),)
    return (tree[0], tree[1][:first] + tree[1][last:]) if tree[0] == "closed" else tree


def trimmed_by(tree, many, known):
    """A TREE for so many pairs, trimmed as the document says."""
    if tree[0] != "cases":
        return tree
    spans = [(many, many + len(case)) for case in known[tree[1]]]
    parts = [trimmed_by(part, last, known) for part, (_, last) in zip(tree[2], spans)]
    for part, (first, last) in zip(parts, spans):
        if all(leaf[0] == "fault" or not any(x[0] for x in leaf[1][first:last]) for leaf in leaves_of(part)):
            return without(part, first, last)
    return ("cases", tree[1], tuple(parts))


def widened(rng, tree, many, known, chance):
    """A TREE that closes what tree closes, with cases that are not needed."""
    if rng.random() < chance and known:
        place = rng.randrange(len(known))
        parts = []
        for case in known[place]:
            parts.append(widened(rng, padded(tree, many, len(case)), many + len(case), known, chance * chance))
        return ("cases", place, tuple(parts))
    if tree[0] == "cases":
        parts = [widened(rng, part, many + len(case), known, chance / 2) for part, case in zip(tree[2], known[tree[1]])]
        return ("cases", tree[1], tuple(parts))
    return tree


def padded(tree, many, width):
    """A TREE with weights of 0 for so many pairs from a place on."""
    if tree[0] == "cases":
        return tree[:2] + (tuple(padded(part, many, width) for part in tree[2]),)
    return (tree[0], tree[1][:many] + (NONE,) * width + tree[1][many:]) if tree[0] == "closed" else tree


class Leaves(unittest.TestCase):
    def test_ordinary(self):
        fault = ("fault", ("way", 0))
        self.assertEqual(leaves(()), 0)
        self.assertEqual(leaves((closed(1),)), 1)
        self.assertEqual(leaves((fault, closed(1))), 2)
        self.assertEqual(leaves((("cases", 0, (fault, closed(1), ("cases", 3, (closed(), fault)))), fault)), 5)
        self.assertEqual(leaves((("cases", 0, ()),)), 0)
        self.assertEqual(leaves(listed((("cases", 0, (fault, closed(1))),))), 2)


class Trimmed(unittest.TestCase):
    def check(self, given, wanted, log=(), facts=FACTS):
        found = trimmed(PLAIN, log, PROGRAM, facts, given)
        self.assertTrue(is_same(found, wanted), found)
        self.assertTrue(is_same(trimmed(PLAIN, log, PROGRAM, facts, found), wanted))
        self.assertTrue(is_same(trimmed(PLAIN, log, PROGRAM, facts, listed(given)), wanted))

    def test_leaves_stay(self):
        self.check((), ())
        self.check((closed(1, 2),), (closed(1, 2),))
        self.check((("fault", ("way", 0)),), (("fault", ("way", 0)),))

    def test_the_first_part_without_a_weight_for_its_case(self):
        self.check((("cases", 0, (closed(1, 1, 0), closed(2, 1, 0), closed(3, 1, 1))),), (closed(1, 1),))
        self.check((("cases", 0, (closed(1, 1, 1), closed(2, 1, 0), closed(3, 1, 0))),), (closed(2, 1),))
        kept = (("cases", 0, (closed(1, 1, 1), closed(2, 1, 1), closed(3, 1, 2))),)
        self.check(kept, kept)

    def test_a_fault_needs_no_case(self):
        bad = ("fault", ("way", 0))
        log = ((0, "down", ONE, TWO),)
        known = conditions(PLAIN, log, PROGRAM)
        parts = tuple(closed(*([1] * (2 + len(case)))) for case in known[0])
        self.check((("cases", 0, parts[:1] + (bad,) + parts[2:]),), (bad,), log=log)

    def test_parts_are_trimmed_first(self):
        inner = ("cases", 0, (closed(1, 1, 0, 1), closed(5, 1, 0, 0), closed(1, 1, 0, 1)))
        self.check((("cases", 0, (closed(1, 1, 1), inner, closed(3, 1, 1))),), (closed(5, 1),))
        inner = ("cases", 0, (closed(1, 1, 0, 1), closed(5, 1, 0, 1), closed(1, 1, 0, 1)))
        self.check((("cases", 0, (closed(1, 1, 1), inner, closed(3, 1, 1))),),
                   (("cases", 0, (closed(1, 1, 1), closed(5, 1, 1), closed(1, 1, 1))),))

    def test_too_much_first(self):
        gapped = (("low", (ONE, NONE)), ("low", None))
        with self.assertRaises(TooMuch):
            trimmed(gapped, (), PROGRAM, FACTS, ())
        many = ((None,) * 9, ())
        with self.assertRaises(TooMuch):
            trimmed(PLAIN, (), many, (), (closed(1),))

    def test_at_random(self):
        rng, seen = random.Random(1), [0, 0]
        for at in range(400):
            question, _, _ = questions.some_question(rng, at % 3 > 0)
            levels, log, program, facts = question
            claim = some_claim(rng, program)
            found = trees(*question, claim)
            if found is None:
                continue
            self.assertTrue(is_same(trimmed(*question, found), found))
            known = conditions(levels, log, program)
            wide = tuple(widened(rng, tree, len(facts) + 1, known, 0.8) for tree in found)
            self.assertTrue(questions.is_paper(question, claim, wide))
            short = trimmed(*question, wide)
            self.assertTrue(is_same(short, tuple(trimmed_by(tree, len(facts) + 1, known) for tree in wide)))
            self.assertTrue(questions.is_paper(question, claim, short))
            self.assertTrue(is_same(trimmed(*question, short), short))
            self.assertLessEqual(leaves(short), leaves(wide))
            self.assertEqual(leaves(wide), sum(len(leaves_of(tree)) for tree in wide))
            seen[0] += leaves(short) < leaves(wide)
            seen[1] += short == found
        self.assertTrue(min(seen) > 25, seen)


if __name__ == "__main__":
    unittest.main()
