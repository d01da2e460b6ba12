"""Section 14: texts, judged by reading back what is written and by texts whose meaning is worked out by Python."""

import random
import re
import unittest
from fractions import Fraction

from everyformat.chains import is_chain
from everyformat.errors import BadLine
from everyformat.programs import is_program
from everyformat.rows import is_levels, is_log
from everyformat.texts import (
    chain_by, levels_by, log_by, program_by, text_of_chain, text_of_levels, text_of_log, text_of_program,
)
from tests import exact, grids, plays
from tests.helpers import is_same
from tests.judges import pair, pairs

NONE, ONE, HALF = (0, 1), (1, 1), (1, 2)
LEVELS = (("low", None), ("high", None))
BIG = 10 ** 300


class Texts(unittest.TestCase):
    def check_bad(self, read, text, line):
        with self.assertRaises(BadLine, msg=text) as caught:
            read(text)
        self.assertEqual(caught.exception.line, line, text)

    def check_lines(self, read, right, wrong, first=()):
        """Each wrong line behind right ones is the one that is told of, whatever comes behind it."""
        for line in right:
            read("\n".join(list(first) + [line]))
        for line in wrong:
            lines = list(first) + list(right)
            self.check_bad(read, "\n".join(lines + [line]), len(lines) + 1)
            self.check_bad(read, "\n".join(list(first) + [line] + list(right) + ["?"]), len(first) + 1)


class Levels(Texts):
    def test_back_and_forth(self):
        rng = random.Random(1)
        for _ in range(100):
            levels = grids.some_levels(rng, 5)
            self.assertTrue(is_levels(levels) and is_same(levels_by(text_of_levels(levels)), levels))
        self.assertEqual(text_of_levels((("low", ((4, 1), (1, 3))), ("high", None))), "low gap 4 1/3\nhigh")

    def test_lines(self):
        right = ["low", "high", "low gap 4 0", "high gap 10/4 003/9", "low gap 1 -0", "low gap 1 0/7"]
        wrong = ["", "Low", "low ", " low", "low gap", "low gap 4", "low gap 4 0 ", "low gap 4 0 0", "low  gap 4 0", "low gap 0 0",
                 "low gap 4 1", "low gap 4 -1/2", "low gap -4 0", "low gap 4 3/2", "low gap 4/0 0", "low gap x 0", "low gap 4 .5",
                 "low\tgap 4 0", "low gap +4 0", "near", "low high", "low gap 4 1/-2", "low gap 4 /2", "low gap 4/ 0", "low None",
                 "low gap - 0", "low gap --4 0", "low gap 4 " + "0" * 301, "low gap 4 0/" + "1" * 301, "low gap 4\n0"]
        self.check_lines(levels_by, right, [line for line in wrong if "\n" not in line])
        self.assertTrue(is_same(levels_by("high gap 10/4 003/9"), (("high", ((5, 2), (1, 3))),)))

    def test_without_lines(self):
        self.check_bad(levels_by, "", 1)
        self.check_bad(levels_by, "\n", 1)
        self.check_bad(levels_by, "low\n", 2)
        self.check_bad(levels_by, "low\n\nhigh", 2)
        self.assertEqual(len(levels_by("\n".join(["low"] * 500))), 500)


class Logs(Texts):
    def read(self, text):
        return log_by(LEVELS, text)

    def test_back_and_forth(self):
        rng = random.Random(2)
        for _ in range(100):
            levels, log = grids.some_log(rng, 12)
            self.assertTrue(is_same(log_by(levels, text_of_log(log)), log))
        self.assertEqual(text_of_log(((0, "down", (7, 2), (3, 1)), (1, "member", (-3, 1), (-3, 1)))), "0 down 7/2 3\n1 member -3")
        self.assertEqual((text_of_log(()), log_by(LEVELS, "")), ("", ()))

    def test_lines(self):
        right = ["0 down 7/2 3", "1 member 10/4", "000000001 near 4 -3", "0 up -0 -0/5", "1 down 3 4", "0 member " + "9" * 300]
        wrong = ["", "2 down 1 1", "-1 down 1 1", "0 Down 1 1", "0 down 1", "0 down 1 1 1", "0 member 1 1", "0 member", "0  down 1 1", "0",
                 "0 down 1 1 ", " 0 down 1 1", "0000000001 near 4 3", "0 down 1 1/0", "0 down 1 1/00", "down 0 1 1", "0 member " + "9" * 301,
                 "0 near\t4 3", "0 near 4,3", "0 near 1.5 2", "1 member", "0 near 1/2/3 1", "0 near 1_0 1", "0 near 1e3 1", "00 middle 1 1"]
        self.check_lines(self.read, right, wrong)
        self.assertTrue(is_same(self.read("0 up -0 -0/5\n0001 near 06/4 3"), ((0, "up", NONE, NONE), (1, "near", (3, 2), (3, 1)))))
        self.assertTrue(is_same(self.read("0 member -" + "9" * 300), ((0, "member", (1 - BIG, 1), (1 - BIG, 1)),)))

    def test_without_lines(self):
        self.check_bad(self.read, "\n", 1)
        self.check_bad(self.read, "0 down 1 1\n", 2)
        self.assertTrue(is_log(LEVELS, self.read("\n".join(["1 down 1 0"] * 300))))


class Chains(Texts):
    def read(self, text):
        return chain_by(LEVELS, text)

    def test_back_and_forth(self):
        rng = random.Random(3)
        for _ in range(100):
            levels, chain, _ = exact.some_formats(rng)
            text = text_of_chain(chain)
            self.assertTrue(is_same(chain_by(levels, text), chain))
            lines = text.split("\n")
            rest = rng.sample(lines[1:], len(lines) - 1)
            self.assertTrue(is_same(chain_by(levels, "\n".join(lines[:1] + rest)), chain))
        chain = (((6, 1), (4, 1)), ((((-3, 1), NONE), ((ONE, (2, 1), HALF),)), (((7, 2),), ())))
        self.assertEqual(text_of_chain(chain), "far 6 4\n0 mark -3\n0 mark 0\n0 fill 1 2 1/2\n1 mark 7/2")

    def test_lines(self):
        right = ["0 mark 0", "1 mark -1/2", "0 fill 1 4/2 2/4", "1 fill 3 5 1"]
        wrong = ["", "far 6 4", "2 mark 1", "0 mark", "0 mark 1 1", "0 fill 1 2", "0 fill 1 2 1 1", "0 mark 6", "0 mark -6", "0 mark 7",
                 "0 fill -5 -4 2", "0 fill -4 -5 1", "0 fill -5 -4 0", "0 fill -5 -4 -1", "0 fill -4 -4 1", "0 fill -5 6 11", "0 Mark 4",
                 "0  mark -4", "0 mark -4 ", "mark 0 -4"]
        together = ["0 mark 0", "1 mark 0", "0 mark 2", "0 mark 3/2", "1 mark 7/4", "0 fill -4 0 1", "0 fill 0 1/2 1/2", "1 fill 4 5 1"]
        self.check_lines(self.read, right, wrong, ["far 6 4"])
        text = "\n".join(["far 6 4"] + right)
        self.assertTrue(is_chain(LEVELS, self.read(text)))
        for line in together:
            self.check_bad(self.read, text + "\n" + line, 6)

    def test_the_least_line_decides(self):
        self.check_bad(self.read, "far 6 4\n0 mark 1\n1 mark 2\n0 mark 1\n0 mark x", 4)
        self.check_bad(self.read, "far 6 4\n0 mark 1\n1 mark 2\n0 mark x\n0 mark 1", 4)
        self.check_bad(self.read, "far 6 4\n0 mark 1\n0 fill 0 2 1\n1 fill 0 2 1", 3)
        self.check_bad(self.read, "far 6 4\n0 mark 9\n0 mark x", 2)

    def test_first_lines(self):
        for text in ("", "far", "far 6", "far 6 4 1", "far 0 4", "far 6 0", "far -6 4", "far 6 -4", "0 mark 0\nfar 6 4", "Far 6 4", "far  6 4",
                     "\nfar 6 4", "far 6 4 ", "0 far 6 4"):
            self.check_bad(self.read, text, 1)
        self.assertTrue(is_same(self.read("far 12/2 01"), (((6, 1), ONE), (((), ()), ((), ())))))
        self.check_bad(self.read, "far 6 4\n", 2)

    def test_many_lines(self):
        lines = ["far 10000 1"] + [f"{at % 2} mark {(at * 37) % 1000}" for at in range(1000)]
        self.assertEqual(len(self.read("\n".join(lines))[1][0][0]), 500)
        self.check_bad(self.read, "\n".join(lines + ["0 mark 999/2", "0 mark 1000", "1 mark 5"]), 1004)


class Programs(Texts):
    def read(self, text):
        return program_by(LEVELS, text)

    def test_back_and_forth(self):
        rng = random.Random(4)
        for _ in range(300):
            program = plays.some_program(rng, 2, 4, 9)
            text = text_of_program(program)
            self.assertTrue(is_program(LEVELS, program) and is_same(self.read(text), program))
            self.assertEqual(text.count("\n") + 1, len(program[0]) + len(program[1]))
        self.assertEqual((text_of_program(((), ())), self.read("")), ("", ((), ())))

    def test_what_is_written(self):
        two = (("exact", (NONE, (ONE, (-1, 1)))), ("exact", ((-2, 3), ((-1, 1), (-1, 2), NONE))), ("exact", (NONE, (NONE,) * 4)),
               ("pick", (ONE, (NONE, (3, 1), NONE, NONE, NONE)), 1, 0), ("round", 1, "near", ((5, 1), (NONE,) * 6)),
               ("greatest", 6, 0), ("exact", (HALF, (NONE,) * 7 + ((-5, 1),))))
        self.assertEqual(text_of_program(((None, 1), two)).split("\n"), [
            "x0 free", "x1 in 1", "x2 = x0 - x1", "x3 = -x0 - 1/2*x1 - 2/3", "x4 = 0", "x5 = x1 if 3*x1 + 1 else x0", "x6 = near.1(5)",
            "x7 = greatest(x6, x0)", "x8 = -5*x7 + 1/2"])

    def test_long_numbers(self):
        program = ((None,), (("exact", ((BIG - 1, BIG - 2), ((1 - BIG, 1),))),))
        self.assertTrue(is_same(self.read(text_of_program(program)), program))
        longer = ((None,), (("exact", ((10 ** 5000, 3), (ONE,))),))
        self.assertEqual(text_of_program(longer), "x0 free\nx1 = x0 + 1" + "0" * 5000 + "/3")
        self.check_bad(self.read, text_of_program(longer), 2)
        self.assertEqual(text_of_log(((0, "member", (-10 ** 5000, 3), (-10 ** 5000, 3)),)), "0 member -1" + "0" * 5000 + "/3")
        self.assertEqual(text_of_levels((("low", ((10 ** 5000, 1), NONE)),)), "low gap 1" + "0" * 5000 + " 0")

    def test_order_of_cells(self):
        text = "a free\nb in 1\nc = least(near.0(a/2), 2*up.1(a + down.0(b)) - 1) if near.1(b) - a else greatest((a), -b)"
        form = [(NONE, (HALF, NONE)), (NONE, (NONE, ONE, NONE)), (NONE, (ONE, NONE, NONE, ONE)),
                ((-1, 1), (NONE, NONE, NONE, NONE, (2, 1))), (NONE, (NONE, ONE) + (NONE,) * 5), (NONE, (ONE,) + (NONE,) * 7),
                (NONE, (NONE, (-1, 1)) + (NONE,) * 7), (NONE, ((-1, 1),) + (NONE,) * 6 + (ONE,) + (NONE,) * 3)]
        steps = (("round", 0, "near", form[0]), ("round", 0, "down", form[1]), ("round", 1, "up", form[2]), ("exact", form[3]),
                 ("least", 2, 5), ("round", 1, "near", form[4]), ("exact", form[5]), ("exact", form[6]), ("greatest", 8, 9),
                 ("pick", form[7], 6, 10))
        self.assertTrue(is_same(self.read(text), ((None, 1), steps)))

    def test_items(self):
        first = "a free\nb free\n"
        for item, is_own in (("a", False), ("(a)", True), ("-a", True), ("1*a", True), ("a/1", True), ("a + 0", True), ("3", True),
                             ("near.0(a)", None), ("least(a, b)", None), ("(near.0(a))", 2), ("-near.0(a)", 2), ("0", True)):
            steps = self.read(first + f"c = least({item}, b)")[1]
            words = [step[0] for step in steps]
            inner = ["round"] if "near" in item else ["least"] if "least" in item else []
            more = [] if is_own is False or is_own is None else ["exact"]
            self.assertEqual(words, inner + more + ["least"], item)
            self.assertEqual(steps[-1][1:], (0 if is_own is False else len(steps), 1))

    def test_right_sides(self):
        first = "a free\nb free\n"
        for side, expected in (("a", ("exact", (NONE, (ONE, NONE)))), ("near.1(a)", ("round", 1, "near", (NONE, (ONE, NONE)))),
                               ("least(b, a)", ("least", 1, 0)), ("a if b else a", ("pick", (NONE, (NONE, ONE)), 0, 0)), ("4/6", ("exact", ((2, 3), (NONE, NONE))))):
            self.assertTrue(is_same(self.read(first + "c = " + side)[1], (expected,)))
        for side in ("(near.1(a))", "-near.1(a)", "2*near.1(a)", "near.1(a)/1", "near.1(a) + 0"):
            steps = self.read(first + "c = " + side)[1]
            self.assertEqual([step[0] for step in steps], ["round", "exact"])

    def test_lines(self):
        right = ["c = a", "d = -a/2 + 3*b - (a - 4)", "e = near.000000001(1/2*a)", "in1 = 4/6*(a + b)/2", "least2 = least(a, b)", "abcdefghijkl = 0"]
        wrong = ["", "a = b", "x in 2", "x = y", "x = x", "x =a", "x= a", "x  = a", "x = a ", "x =", "x = ", "X = a", "1x = a",
                 "x_1 = a", "near = a", "in = a", "else = a", "abcdefghijklm = a", "x = a +b", "x = a+b", "x = a  + b", "x = + a", "x = - a", "x = --a",
                 "x = a + -b", "x = 2a", "x = a*2", "x = 2*3", "x = 2 * a", "x = a /2", "x = a/0", "x = a/00", "x = a/2/2", "x = 1/2/3", "x = 1/0", "x = a/b",
                 "x = a*b", "x = (a", "x = a)", "x = ()", "x = near(a)", "x = near.2(a)", "x = near.0000000000(a)", "x = near.0 (a)", "x = near.0(a",
                 "x = near.0()", "x = near.-1(a)", "x = member.0(a)", "x = least(a)", "x = least(a,b)", "x = least(a, b, a)", "x = least(a,  b)",
                 "x = a if b", "x = a if b else", "x = a if b else a if b else a", "x = least(a if b else a, b)", "x = a else b", "x = if b else a",
                 "x = a if  b else a", "x\t= a", "x = a\t", "x = " + "1" * 301, "x = 1/" + "1" * 301, "x = a/" + "1" * 301, "x free free", "x", "free", "x in",
                 "x = 1.5", "x = a + b +", "x = a - ", "x = near", "x = Near.0(a)", "= a", "x = a = b", "x = 1*a*1", "x = 2*-a", "x = /2", "x = *a"]
        self.check_lines(self.read, right, wrong, ["a free", "b in 1"])

    def test_first_cells(self):
        self.assertEqual(self.read("a in 00\nb free\nc in 1"), ((0, None, 1), ()))
        for line in ("a in 2", "a in -1", "a in", "a in ", "a  free", "a free ", " a free", "a in 0 ", "a in 0000000000", "down free", "a Free", "a in x"):
            self.check_bad(self.read, "b free\n" + line, 2)
        self.check_bad(self.read, "a free\na free", 2)
        self.check_bad(self.read, "a free\nb = a\nc free", 3)
        self.check_bad(self.read, "a free\n", 2)
        self.check_bad(self.read, "a free\nb = a\n", 3)
        self.check_bad(self.read, "\n", 1)

    def test_names_of_lines_below(self):
        self.check_bad(self.read, "a = b\nb = 1", 1)
        self.check_bad(self.read, "a = 1\nb = a + c\nc = 1", 2)

    def test_brackets(self):
        for deep, is_right in ((20, True), (21, False)):
            for open_one in ("(", "near.0(", "2*("):
                text = "a free\nb = " + open_one * deep + "a" + ")" * deep
                if is_right:
                    self.assertTrue(is_program(LEVELS, self.read(text)))
                else:
                    self.check_bad(self.read, text, 2)
        self.assertTrue(self.read("a free\nb = " + " + ".join(["(" * 20 + "a" + ")" * 20] * 9)))
        self.check_bad(self.read, "a free\nb = " + "((a)) + (a) + " + "(" * 21 + "a" + ")" * 21, 2)
        self.check_bad(self.read, "a free\nb = " + "(" * 5000 + "a" + ")" * 5000, 2)
        self.check_bad(self.read, "a free\nb = least(" + "(" * 20 + "a" + ")" * 20 + ", a)", 2)

    def test_each_line_cut_off_or_with_a_sign_too_many(self):
        text = "a free\nb in 1\nc = least(near.0(a/2), 2*up.1(a - b)) if b - 1/2*a else -(b)\nd = -c + 3"
        self.assertTrue(self.read(text))
        first, last = text.index("c ="), text.index("\nd")
        for at in range(first, last):
            if text[first:at] != "c = least(near.0(a/2), 2*up.1(a - b))":
                self.check_bad(self.read, text[:at] + text[last:], 3)
        for at in range(first + 4, last + 1):
            for sign in "?.)(":
                self.check_bad(self.read, text[:at] + sign + text[at:], 3)

    def test_by_python(self):
        """SUMS at random, with their values worked out by Python."""
        rng = random.Random(5)
        for _ in range(300):
            text = self.some_sum(rng, 3)
            program = self.read("a free\nb free\nc = " + text)
            worths = [Fraction(rng.randint(-9, 9), rng.randint(1, 4)) for _ in range(2)]
            cells, _ = plays.played_exactly(program, worths)
            self.assertEqual(cells[-1], self.value_of(text, worths), text)

    def value_of(self, text, worths):
        source = re.sub(r"\b(near|down|up)\.\d", "rounded", text)
        source = re.sub(r"(?<![\w.])(\d+)", r"F('\1')", source)
        names = {"a": worths[0], "b": worths[1], "F": Fraction, "rounded": lambda x: x, "least": min, "greatest": max}
        return eval(source, names)

    def some_sum(self, rng, deep):
        terms = [self.some_term(rng, deep) for _ in range(rng.randint(1, 3))]
        text = rng.choice(["", "-"]) + terms[0]
        for term in terms[1:]:
            text += rng.choice([" + ", " - "]) + term
        return text

    def some_term(self, rng, deep):
        number = rng.choice(["2", "1/2", "07/3"])
        if rng.random() < 0.2:
            return number
        part = self.some_part(rng, deep)
        return (number + "*" if rng.random() < 0.3 else "") + part + ("/3" if rng.random() < 0.2 else "")

    def some_part(self, rng, deep):
        way = rng.random()
        if deep == 0 or way < 0.4:
            return rng.choice("ab")
        if way < 0.6:
            return "(" + self.some_sum(rng, deep - 1) + ")"
        if way < 0.8:
            return rng.choice(["near.0", "down.1", "up.0"]) + "(" + self.some_sum(rng, deep - 1) + ")"
        return rng.choice(["least", "greatest"]) + "(" + self.some_sum(rng, deep - 1) + ", " + self.some_sum(rng, deep - 1) + ")"

    def test_of_whatever_size(self):
        text = "\n".join(["a free"] + [f"b{at} = {'a' if at == 0 else 'b' + str(at - 1)} + 1" for at in range(60)])
        self.assertEqual(len(self.read(text)[1]), 60)
        self.assertEqual(pairs(1), (ONE,))
        self.assertEqual(pair(Fraction(1, 2)), HALF)


if __name__ == "__main__":
    unittest.main()
