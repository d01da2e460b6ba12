"""Section 18, rewrite.py: PROGRAMS made lean and rewritten, judged rule by rule and by runs that are played."""

import random
import unittest

from everyformat.errors import NoPlace
from everyformat.programs import is_program, traces
from everyformat.rewrite import lean, plainly_at_most, rewritten, with_step
from tests import plays, rewriting
from tests.helpers import is_same
from tests.judges import quotient

NONE, ONE, BACK, HALF = (0, 1), (1, 1), (-1, 1), (1, 2)
WORDS = ("round", "exact", "copy", "copy", "again", "again", "down", "up", "least", "greatest", "pick", "plain pick")


def form(*factors, fixed=0):
    return ((fixed, 1), tuple((x, 1) for x in factors))


def rounding(level, kind, *factors):
    return ("round", level, kind, form(*factors))


def levels_of(many):
    return (("low", None),) * many


def single(place, many):
    return form(*[int(at == place) for at in range(many)])


def some_step(rng, many_levels, steps, starts, word):
    many = starts + len(steps)
    if word == "again" and steps:
        step = rng.choice(steps)
        if step[0] in ("least", "greatest"):
            return (step[0], step[2], step[1])
        at = 1 if step[0] == "pick" else len(step) - 1
        longer = (step[at][0], step[at][1] + (NONE,) * (many - len(step[at][1])))
        return step[:at] + (longer,) + step[at + 1:]
    if word in ("down", "up"):
        return ("round", rng.randrange(many_levels), word, single(rng.randrange(many), many))
    if word == "plain pick":
        factors = [0] * many
        return ("pick", form(*factors, fixed=rng.choice([-1, 0, 1])), rng.randrange(many), rng.randrange(many))
    return plays.some_step(rng, many_levels, many, ("exact",) if word == "again" else (word,))


def some_program(rng, many_levels, most_starts=3, most_steps=9):
    """A PROGRAM with a last cell, in which much can be rewritten."""
    starts = tuple(rng.choice([None] + list(range(many_levels))) for _ in range(rng.randint(1, most_starts)))
    steps = []
    for _ in range(rng.randint(0, most_steps)):
        steps.append(some_step(rng, many_levels, steps, len(starts), rng.choice(WORDS)))
    return (starts, tuple(steps))


class Lean(unittest.TestCase):
    def test_ordinary(self):
        program = ((None, 0), (
            rounding(0, "near", 1, 1), ("exact", form(0, 0, 1)), ("least", 0, 2), ("pick", form(0, 0, 0, 1, 0), 1, 4),
        ))
        self.assertEqual(lean(program), program)
        self.assertEqual(lean((program[0], program[1][:3])), (program[0], (program[1][0], ("least", 0, 2))))
        self.assertEqual(lean((program[0], program[1][:2])), (program[0], program[1][:2]))

    def test_places_and_forms_go_without_the_cells_that_go(self):
        program = ((0,), (("exact", form(2)), rounding(0, "up", 1, 0), ("exact", form(0, 1, 0)),
                          ("pick", form(1, 0, 3, 0, fixed=5), 2, 0), ("greatest", 4, 0)))
        self.assertEqual(lean(program), (
            (0,), (rounding(0, "up", 1), ("pick", form(1, 3, fixed=5), 1, 0), ("greatest", 2, 0))))

    def test_edges(self):
        self.assertEqual(lean(((None, 1), ())), ((None, 1), ()))
        self.assertEqual(lean(((), (("exact", form()), ("exact", form(0, fixed=3))))), ((), (("exact", form(fixed=3)),)))
        self.assertEqual(lean(((None,), (("exact", form(1)), ("least", 0, 0)))), ((None,), (("least", 0, 0),)))

    def needed(self, program, cell):
        first = len(program[0])
        if cell < first:
            return {cell}
        step = program[1][cell - first]
        found = {cell}
        others = list(step[-2:]) if step[0] in ("least", "greatest", "pick") else []
        for part in step:
            if isinstance(part, tuple):
                others += [at for at, x in enumerate(part[1]) if x[0]]
        for other in others:
            found |= self.needed(program, other)
        return found

    def test_at_random(self):
        rng, less = random.Random(1), 0
        for _ in range(300):
            program = some_program(rng, 2)
            first = len(program[0])
            found = lean(program)
            self.assertTrue(is_program(levels_of(2), found))
            kept = sorted(cell for cell in self.needed(program, first + len(program[1]) - 1) if cell >= first)
            self.assertEqual(len(found[1]), len(kept))
            less += len(found[1]) < len(program[1])
            members = plays.some_members(rng, 2)
            worths = plays.worths_for(rng, program, members)
            cells, _ = plays.played_among(levels_of(2), members, program, worths)
            others, _ = plays.played_among(levels_of(2), members, found, worths)
            self.assertEqual(others[first:], [cells[cell] for cell in kept])
            self.assertEqual(lean(found), found)
        self.assertGreater(less, 100)


class WithStep(unittest.TestCase):
    def test_ordinary(self):
        program, step = ((None, 0), (rounding(0, "near", 1, 1), ("least", 0, 2))), ("greatest", 1, 1)
        self.assertEqual(with_step(program, 2, step), (program[0], (step, ("least", 0, 2))))
        self.assertEqual(with_step(program, 3, step), (program[0], (program[1][0], step)))
        self.assertTrue(is_same(with_step(program, 3, list(step)), (program[0], (program[1][0], step))))

    def test_no_such_step(self):
        program = ((None, 0), (rounding(0, "near", 1, 1),))
        for given, place in ((program, 0), (program, 1), (program, 3), (program, -1), (program, -3), (((0,), ()), 0), (((), ()), 0)):
            with self.assertRaises(NoPlace) as caught:
                with_step(given, place, ("exact", form(0, 0)))
            self.assertEqual(caught.exception.place, place)


class PlainlyAtMost(unittest.TestCase):
    def check(self, steps, one, two, wanted, starts=(None,)):
        self.assertIs(plainly_at_most(levels_of(3), (starts, steps), one, two), wanted, (steps, one, two))

    def test_by_traces(self):
        steps = (("exact", form(1, fixed=1)), ("exact", form(2)), ("exact", form(1, -1, 0, fixed=-1)))
        for one, two, wanted in ((0, 0, True), (0, 1, True), (1, 0, False), (1, 1, True), (0, 2, False), (3, 3, True)):
            self.check(steps, one, two, wanted)
        self.check((("exact", form(1)), ("exact", form(0, 1))), 1, 2, True)
        self.check((("exact", form(1)), ("exact", form(0, 1))), 2, 0, True)

    def test_by_a_rounding_and_what_is_rounded(self):
        for kind, one, two in (("down", 1, 0), ("up", 0, 1)):
            self.check((rounding(1, kind, 1),), one, two, True)
            self.check((rounding(1, kind, 1),), two, one, False)
        for one, two in ((0, 1), (1, 0)):
            self.check((rounding(1, "near", 1),), one, two, False)
        steps = (rounding(0, "down", 2), ("exact", form(2, 0)), rounding(2, "up", 2, 0, 0))
        for one, two in ((1, 2), (2, 3), (1, 3)):
            self.check(steps, one, two, True)
            self.check(steps, two, one, False)

    def test_by_two_roundings_of_the_same(self):
        right = []
        for kind in ("down", "up", "near"):
            for other in ("down", "up", "near"):
                for level in (0, 1, 2):
                    steps = (rounding(1, kind, 3), rounding(level, other, 3, 0))
                    if plainly_at_most(levels_of(3), ((None,), steps), 1, 2):
                        right.append((kind, other, level))
        self.assertEqual(right, [
            ("down", "down", 1), ("down", "down", 2), ("down", "up", 0), ("down", "up", 1), ("down", "up", 2),
            ("down", "near", 1), ("down", "near", 2), ("up", "up", 0), ("up", "up", 1),
            ("near", "up", 0), ("near", "up", 1),
        ])

    def test_other_forms_tell_nothing(self):
        self.check((rounding(0, "down", 1), rounding(0, "up", 2, 0)), 1, 2, False)
        self.check((rounding(0, "down", 2), rounding(0, "down", 1, 0)), 1, 2, False)
        self.check((("least", 0, 0), ("pick", form(0, 1), 0, 1)), 1, 2, True)
        self.check((("least", 0, 1),), 2, 0, False, starts=(None, None))

    def test_cells_whose_trace_is_single_are_meant(self):
        steps = (rounding(1, "down", 1), rounding(2, "near", 0, 1), ("exact", form(0, 0, 1)), ("least", 3, 1))
        for one in (1, 2, 3, 4):
            self.check(steps, one, 0, True)
            self.check(steps, 0, one, False)

    def test_no_such_cell(self):
        program = ((None,), (rounding(0, "down", 1),))
        for one, two, wrong in ((2, 0, 2), (-1, 5, -1), (0, 2, 2), (0, -1, -1), (3, 2, 3)):
            with self.assertRaises(NoPlace) as caught:
                plainly_at_most(levels_of(1), program, one, two)
            self.assertEqual(caught.exception.place, wrong)

    def test_at_random(self):
        rng, many = random.Random(2), 0
        for _ in range(250):
            program = some_program(rng, 2)
            steps, sums = [None] * len(program[0]), []
            for trace in traces(levels_of(2), program):
                sums.append((quotient(trace[0]), {cell: quotient(x) for cell, x in enumerate(trace[1]) if x[0]}))
            for step in program[1]:
                steps.append(step[:3] + (put_in(step[3], sums),) if step[0] == "round" else step)
            runs = []
            for _ in range(6):
                members = plays.some_members(rng, 2)
                runs.append(plays.played_among(levels_of(2), members, program, plays.worths_for(rng, program, members))[0])
            for one in range(len(sums)):
                for two in range(len(sums)):
                    found = plainly_at_most(levels_of(2), program, one, two)
                    self.assertIs(found, rewriting.is_plain(steps, sums, meant(sums, one), meant(sums, two)))
                    many += found and one != two
                    self.assertTrue(not found or all(cells[one] <= cells[two] for cells in runs))
        self.assertGreater(many, 300)


def put_in(given, sums):
    fixed, parts = quotient(given[0]), {}
    for at, factor in enumerate(given[1]):
        fixed += quotient(factor) * sums[at][0]
        for cell, x in sums[at][1].items():
            parts[cell] = parts.get(cell, 0) + quotient(factor) * x
    return fixed, {cell: x for cell, x in parts.items() if x}


def meant(sums, cell):
    fixed, parts = sums[cell]
    return list(parts)[0] if fixed == 0 and list(parts.values()) == [1] else cell


class Rewritten(unittest.TestCase):
    def check(self, program, wanted, many=3):
        found = rewritten(levels_of(many), program)
        self.assertTrue(is_same(found, wanted), (program, found))
        self.assertTrue(is_same(rewritten(levels_of(many), wanted), wanted))

    def test_exact_steps_of_one_cell_are_this_cell(self):
        self.check(((None,), (("exact", form(1)),)), ((None,), ()))
        self.check(((None,), (("exact", form(2)), ("exact", form(0, 1)))), ((None,), (("exact", form(2)),)))
        self.check(((None,), (("exact", form(2)), ("exact", form(-1, 1)))), ((None,), ()))
        self.check(((None,), (("exact", form(1, fixed=1)),)), ((None,), (("exact", form(1, fixed=1)),)))

    def test_forms_are_written_in_traces(self):
        self.check(((None,), (("exact", form(2)), ("exact", form(1, 3)), rounding(0, "near", 0, 1, 1))),
                   ((None,), (rounding(0, "near", 9),)))
        self.check(((None, None), (("exact", form(1, -1)), ("pick", form(0, 0, 1), 0, 1))),
                   ((None, None), (("pick", form(1, -1), 0, 1),)))

    def test_roundings_of_members_are_left_out(self):
        self.check(((1,), (rounding(1, "near", 1),)), ((1,), ()))
        self.check(((1,), (rounding(2, "down", 1),)), ((1,), ()))
        for start, step in ((1, rounding(0, "near", 1)), (None, rounding(0, "up", 1)), (1, rounding(1, "near", 2))):
            self.check(((start,), (step,)), ((start,), (step,)))
        self.check(((None,), (rounding(0, "near", 3), rounding(1, "down", 0, 1))), ((None,), (rounding(0, "near", 3),)))
        self.check(((0, 1), (("least", 0, 1), rounding(1, "up", 0, 0, 1))), ((0, 1), (("least", 0, 1),)))
        kept = ((0, 1), (("least", 0, 1), rounding(0, "up", 0, 0, 1)))
        self.check(kept, kept)

    def test_roundings_of_roundings_by_the_same_kind(self):
        for kind in ("down", "up"):
            self.check(((None,), (rounding(1, kind, 3), rounding(0, kind, 0, 1))), ((None,), (rounding(0, kind, 3),)))
            self.check(((None,), (rounding(2, kind, 3), rounding(1, kind, 0, 1), rounding(0, kind, 0, 0, 1))),
                       ((None,), (rounding(0, kind, 3),)))
        near = ((None,), (rounding(1, "near", 3), rounding(0, "near", 0, 1)))
        mixed = ((None,), (rounding(1, "down", 3), rounding(0, "up", 0, 1)))
        for program in (near, mixed):
            self.check(program, program)

    def test_what_takes_the_place_can_be_a_member(self):
        self.check(((1,), (rounding(1, "down", 1), rounding(0, "down", 0, 1))), ((1,), (rounding(0, "down", 1),)))
        program = ((1,), (rounding(0, "down", 1), ("exact", form(1, 0)), rounding(2, "down", 0, 0, 1), rounding(1, "down", 0, 0, 0, 1)))
        self.check(program, ((1,), ()))
        kept = (None,), (rounding(0, "near", 3), rounding(1, "down", 1, 1), rounding(0, "down", 0, 0, 1))
        self.check(kept, ((None,), (rounding(0, "near", 3), rounding(0, "down", 1, 1))))
        self.check(((0, 2), (("least", 0, 1), rounding(1, "up", 0, 0, 1), rounding(0, "up", 0, 0, 0, 1))),
                   ((0, 2), (("least", 0, 1), rounding(0, "up", 0, 0, 1))))

    def test_choices_of_one_cell(self):
        for step in (("least", 0, 0), ("greatest", 0, 0), ("pick", form(1, 1), 0, 0)):
            self.check(((None, None), (step,)), ((None, None), (("exact", form(1, 0)),)))
        self.check(((None,), (("exact", form(1)), ("least", 0, 1))), ((None,), ()))
        for fixed, wanted in ((-1, ((None, None), ())), (0, ((None, None), (("exact", form(1, 0)),))),
                              (1, ((None, None), (("exact", form(1, 0)),)))):
            self.check(((None, None), (("pick", form(0, 0, fixed=fixed), 0, 1),)), wanted)
        self.check(((None, None), (("exact", form(1, 0)), ("pick", form(1, 0, -1), 1, 0))), ((None, None), ()))

    def test_choices_that_are_plain(self):
        down, up = rounding(0, "down", 1), rounding(0, "up", 1)
        self.check(((None,), (down, ("least", 0, 1))), ((None,), (down,)))
        self.check(((None,), (down, ("least", 1, 0))), ((None,), (down,)))
        self.check(((None,), (down, ("greatest", 1, 0))), ((None,), ()))
        self.check(((None,), (up, ("greatest", 0, 1))), ((None,), (up,)))
        self.check(((None,), (up, ("least", 0, 1))), ((None,), ()))
        self.check(((None,), (rounding(1, "down", 1), rounding(1, "near", 1, 0), ("greatest", 1, 2))),
                   ((None,), (rounding(1, "near", 1),)))

    def test_equal_steps_are_one(self):
        self.check(((None, None), (rounding(0, "near", 1, 1), rounding(0, "near", 1, 1, 0), ("exact", form(0, 0, 1, -1)))),
                   ((None, None), (("exact", form(0, 0)),)))
        self.check(((None, None), (("least", 0, 1), ("least", 1, 0), ("exact", form(0, 0, 1, 1)))),
                   ((None, None), (("least", 0, 1), ("exact", form(0, 0, 2)))))
        kept = ((None, None), (("pick", form(1, 1), 0, 1), ("pick", form(1, 1, 0), 1, 0), ("exact", form(0, 0, 1, 1))))
        self.check(kept, kept)
        self.check(((None, None), (("least", 1, 0),)), ((None, None), (("least", 0, 1),)))

    def test_without_steps_and_starts(self):
        self.check(((None,), ()), ((None,), ()))
        self.check(((0, 1), ()), ((0, 1), ()))
        self.check(((0, 1), (("exact", form(1, 0)),)), ((0, 1), (("exact", form(1, 0)),)))
        self.check(((0, 1), (("exact", form(0, 1)),)), ((0, 1), ()))
        self.check(((), (("exact", form(fixed=2)), rounding(0, "near", 1))), ((), (("round", 0, "near", form(fixed=2)),)))

    def test_what_nothing_hangs_on_goes(self):
        self.check(((None,), (rounding(0, "near", 1), ("exact", form(5, 0)))), ((None,), (("exact", form(5)),)))

    def test_at_random(self):
        rng, shorter = random.Random(3), 0
        for _ in range(1500):
            many = rng.randint(1, 3)
            program = some_program(rng, many)
            found = rewritten(levels_of(many), program)
            self.assertTrue(is_same(found, rewriting.rewritten(program)), program)
            self.assertTrue(is_program(levels_of(many), found))
            self.assertTrue(is_same(rewritten(levels_of(many), found), found), program)
            self.assertLessEqual(len(found[1]), len(program[1]))
            shorter += len(found[1]) < len(program[1])
        self.assertGreater(shorter, 800)

    def test_it_is_alike_in_runs(self):
        rng = random.Random(4)
        for _ in range(300):
            many = rng.randint(1, 3)
            program = some_program(rng, many)
            levels = tuple((rng.choice(["low", "high"]), None) for _ in range(many))
            found = rewritten(levels, program)
            for _ in range(6):
                members = plays.some_members(rng, many)
                worths = plays.worths_for(rng, program, members)
                wanted, _ = plays.played_among(levels, members, program, worths)
                cells, _ = plays.played_among(levels, members, found, worths)
                self.assertEqual(cells[-1], wanted[-1])

    def test_at_the_bounds(self):
        steps = []
        for at in range(24):
            steps.append(rounding(at % 2, "near", *[cell % 3 for cell in range(8 + at)]))
        program = ((None,) * 8, tuple(steps))
        self.check(program, rewriting.rewritten(program))


if __name__ == "__main__":
    unittest.main()
