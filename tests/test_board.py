"""Section 22: Boards, beside a model of them that keeps all it knows in plain dicts."""

import inspect
import itertools
import random
import unittest

from everyformat import build, results, told
from everyformat.board import Board
from everyformat.errors import CanNot, NoPlace, NothingDone, Unfit
from tests import exact, grids, papering
from tests.helpers import is_same, listed

NONE, ONE, TWO = (0, 1), (1, 1), (2, 1)
PLAIN = (("low", None),)
LEVELS = (("low", ((7, 2), (0, 1))), ("low", None))
FOUR = ((0, "down", ONE, NONE), (1, "down", TWO, (9, 10)), (1, "up", TWO, (31, 10)), (0, "up", (3, 1), (4, 1)))
DOWN, INSIDE = (0, "down", (5, 1), NONE), (0, "member", (3, 1), (3, 1))


class Model:
    """What a Board is, said once more."""

    def __init__(self, levels, hand):
        self.levels, self.hand, self.rows, self.turns, self.deeds = levels, hand, {}, {}, []

    def note(self, row):
        if row[0] < 0 or row[0] >= len(self.levels):
            return NoPlace
        entry = (self.hand, sum(hand == self.hand for hand, _ in self.rows))
        self.rows[entry], self.turns[entry] = row, 0
        self.deeds.append((entry, 0))
        return entry

    def turned(self, entry, odd):
        if entry not in self.rows:
            return NoPlace
        if self.turns[entry] % 2 == odd:
            return CanNot
        self.turns[entry] += 1
        self.deeds.append((entry, odd))
        return None

    def undo(self):
        if not self.deeds:
            return NothingDone
        entry, odd = self.deeds[-1]
        if self.turns[entry] % 2 != odd:
            return CanNot
        self.turns[entry] += 1
        self.deeds.pop()
        return None

    def hear(self, other):
        if self.hand == other.hand or self.levels != other.levels:
            return Unfit
        new = [entry for entry in other.rows if entry not in self.rows]
        self.rows.update({entry: other.rows[entry] for entry in new})
        for entry, turn in other.turns.items():
            self.turns[entry] = max(turn, self.turns.get(entry, 0))
        return len(new)

    def is_behind(self, other):
        if self.hand == other.hand or self.levels != other.levels:
            return Unfit
        return any(entry not in self.rows or turn > self.turns[entry] for entry, turn in other.turns.items())

    def standing(self):
        return sorted(entry for entry in self.rows if self.turns[entry] % 2 == 0)

    def log(self, hands=None):
        return tuple(self.rows[entry] for entry in self.standing() if hands is None or entry[0] in hands)


def answer(call, *args):
    """What a call returns, or the class of the error that it raises."""
    try:
        return call(*args)
    except (CanNot, NoPlace, NothingDone, Unfit) as error:
        return type(error)


class Examples(unittest.TestCase):
    def test_example(self):
        a, b = Board(LEVELS, "a"), Board(LEVELS, "b")
        self.assertEqual((a.note(FOUR[0]), a.note(FOUR[1])), (("a", 0), ("a", 1)))
        self.assertEqual((b.note(FOUR[2]), b.note(FOUR[3])), (("b", 0), ("b", 1)))
        self.assertEqual((a.is_possible(), b.hear(a), b.is_possible(), b.rift(), len(b.clash()), len(b.fewest_out())),
                         (True, 2, False, ("a", "b"), 4, 1))
        self.assertIsNone(b.strike(("a", 1)))
        self.assertEqual((a.hear(b), a.is_possible(), a.log() == b.log(), a.is_behind(b), a.turn(("a", 1))),
                         (2, True, True, False, 1))
        with self.assertRaises(CanNot):
            a.undo()


class Deeds(unittest.TestCase):
    def test_a_board_without_entries(self):
        board = Board(LEVELS, "ab")
        self.assertEqual((board.levels(), board.hand(), board.entries(), board.standing(), board.hands(), board.log()),
                         (LEVELS, "ab", [], [], (), ()))
        self.assertEqual((board.is_possible(), board.agree(()), board.agree(("x",)), board.clash(), board.rift(), board.fewest_out()),
                         (True, True, True, None, None, ()))
        self.assertEqual(board.member_status(0, ONE), "some")
        self.assertEqual(board.chain(), build.build_chain(LEVELS, ()))
        with self.assertRaises(NothingDone):
            board.undo()

    def test_notes(self):
        board = Board(PLAIN, "a")
        for number, row in enumerate((DOWN, INSIDE, DOWN)):
            self.assertTrue(is_same(board.note(listed(row)), ("a", number)))
        self.assertEqual(board.log(), (DOWN, INSIDE, DOWN))
        self.assertTrue(is_same(board.row(["a", 1]), INSIDE))
        self.assertEqual((board.turn(("a", 1)), board.hands()), (0, ("a",)))
        for level in (1, -1, 7):
            with self.assertRaises(NoPlace) as caught:
                board.note((level, "down", ONE, NONE))
            self.assertEqual(caught.exception.place, level)
        self.assertEqual(len(board.entries()), 3)

    def test_rows_that_go_wrong_are_noted(self):
        board = Board(PLAIN, "a")
        board.note((0, "up", ONE, NONE))
        self.assertEqual((board.is_possible(), board.clash(), board.rift(), board.fewest_out()),
                         (False, (("a", 0),), ("a",), (("a", 0),)))

    def test_strikes_and_restores(self):
        board = Board(PLAIN, "a")
        entry = board.note(DOWN)
        with self.assertRaises(CanNot):
            board.restore(entry)
        self.assertIsNone(board.strike(list(entry)))
        self.assertEqual((board.entries(), board.standing(), board.turn(entry), board.log(), board.hands()), ([entry], [], 1, (), ()))
        with self.assertRaises(CanNot):
            board.strike(entry)
        self.assertIsNone(board.restore(entry))
        self.assertEqual((board.standing(), board.turn(entry)), ([entry], 2))
        for unknown in (("a", 1), ("b", 0), ("a", -1)):
            for call in (board.row, board.turn, board.strike, board.restore):
                with self.assertRaises(NoPlace) as caught:
                    call(unknown)
                self.assertEqual(caught.exception.place, unknown)

    def test_deeds_are_taken_back_in_turn(self):
        board = Board(PLAIN, "a")
        first = board.note(DOWN)
        board.strike(first)
        second = board.note(INSIDE)
        for standing, turns in (([], (1, 1)), ([first], (2, 1)), ([], (3, 1))):
            self.assertIsNone(board.undo())
            self.assertEqual(board.standing(), standing)
            self.assertEqual((board.turn(first), board.turn(second)), turns)
        with self.assertRaises(NothingDone):
            board.undo()

    def test_undo_where_another_hand_changed_the_entry(self):
        a, b = Board(PLAIN, "a"), Board(PLAIN, "b")
        entry = a.note(DOWN)
        self.assertEqual(b.hear(a), 1)
        with self.assertRaises(NothingDone):
            b.undo()
        b.strike(entry)
        self.assertEqual(a.hear(b), 0)
        for _ in range(2):
            with self.assertRaises(CanNot):
                a.undo()
        b.undo()
        self.assertEqual((b.turn(entry), a.turn(entry), a.is_behind(b)), (2, 1, True))
        a.hear(b)
        self.assertIsNone(a.undo())
        self.assertEqual((a.turn(entry), a.standing()), (3, []))

    def test_what_was_passed_in_or_handed_out_can_be_changed(self):
        levels, row = listed(PLAIN), listed(DOWN)
        board = Board(levels, "a")
        board.note(row)
        levels.clear()
        row[0] = 9
        board.entries().clear()
        board.standing().append(None)
        self.assertEqual((board.levels(), board.log(), board.entries(), board.standing()), (PLAIN, (DOWN,), [("a", 0)], [("a", 0)]))


class Hearing(unittest.TestCase):
    def test_levels_and_hands(self):
        a = Board(PLAIN, "a")
        for other in (Board(PLAIN, "a"), a, Board(LEVELS, "b"), Board((("high", None),), "c")):
            for call in (a.hear, a.is_behind):
                with self.assertRaises(Unfit):
                    call(other)
        self.assertEqual(a.hear(Board(listed(PLAIN), "b")), 0)

    def test_hearing_again(self):
        a, b = Board(PLAIN, "a"), Board(PLAIN, "b")
        b.note(DOWN)
        self.assertIs(a.is_behind(b), True)
        self.assertEqual([a.hear(b), a.hear(b), b.hear(a)], [1, 0, 0])
        self.assertIs(a.is_behind(b), False)
        b.strike(("b", 0))
        self.assertIs(a.is_behind(b), True)
        self.assertIs(b.is_behind(a), False)
        self.assertEqual([a.hear(b), a.turn(("b", 0)), a.standing()], [0, 1, []])

    def test_other_boards_do_not_change(self):
        a, b = Board(PLAIN, "a"), Board(PLAIN, "b")
        b.note(DOWN)
        a.note(INSIDE)
        a.hear(b)
        a.strike(("b", 0))
        self.assertEqual((b.entries(), b.standing(), b.turn(("b", 0))), ([("b", 0)], [("b", 0)], 0))

    def test_entries_are_in_order_of_hands_and_numbers(self):
        boards = [Board(PLAIN, hand) for hand in ("b", "a", "ab", "abcdefgh")]
        for board in boards:
            for _ in range(12):
                board.note(DOWN)
        for board in boards[1:]:
            boards[0].hear(board)
        wanted = [(hand, number) for hand in ("a", "ab", "abcdefgh", "b") for number in range(12)]
        self.assertEqual(boards[0].entries(), wanted)
        self.assertEqual(boards[0].hands(), ("a", "ab", "abcdefgh", "b"))


class AtRandom(unittest.TestCase):
    def some_rows(self, rng):
        levels, log = grids.some_log(rng, 8)
        return levels, list(log) + [DOWN, INSIDE]

    def step(self, rng, boards, models, rows):
        """One deed or hearing by a Board and its model."""
        at = rng.randrange(len(boards))
        board, model = boards[at], models[at]
        known = sorted(model.rows) + [("zz", 0), (model.hand, 99)]
        way = rng.random()
        if way < 0.3:
            row = rng.choice(rows) if rng.random() < 0.95 else (9, "down", ONE, NONE)
            return answer(board.note, row), model.note(row)
        if way < 0.6:
            entry, odd = rng.choice(known), rng.randrange(2)
            return answer(board.strike if odd else board.restore, entry), model.turned(entry, odd)
        if way < 0.75:
            return answer(board.undo), model.undo()
        other = rng.randrange(len(boards))
        found = answer(board.is_behind, boards[other]), model.is_behind(models[other])
        self.assertEqual(*found)
        return answer(board.hear, boards[other]), model.hear(models[other])

    def check_same(self, board, model):
        self.assertTrue(is_same(board.entries(), sorted(model.rows)))
        self.assertTrue(is_same(board.standing(), model.standing()))
        self.assertTrue(is_same(board.log(), model.log()))
        self.assertTrue(is_same(board.hands(), tuple(sorted({hand for hand, _ in model.standing()}))))
        for entry in model.rows:
            self.assertEqual((board.row(entry), board.turn(entry)), (model.rows[entry], model.turns[entry]))

    def test_boards_go_as_their_models(self):
        rng, seen = random.Random(1), set()
        for _ in range(40):
            levels, rows = self.some_rows(rng)
            hands = rng.sample(["a", "b", "ab", "zzzzzzzz", "q"], rng.randint(2, 4))
            boards, models = [Board(levels, hand) for hand in hands], [Model(levels, hand) for hand in hands]
            for _ in range(40):
                found, wanted = self.step(rng, boards, models, rows)
                self.assertTrue(is_same(found, wanted), (found, wanted))
                seen.add(wanted if isinstance(wanted, type) else None)
                for board, model in zip(boards, models):
                    self.check_same(board, model)
        self.assertEqual(seen, {None, NoPlace, CanNot, NothingDone, Unfit})

    def check_answers(self, board, model):
        levels, log = model.levels, model.log()
        is_possible = exact.is_possible(levels, log)
        self.assertIs(board.is_possible(), is_possible)
        clash, rift = board.clash(), board.rift()
        self.assertEqual((clash is None, rift is None), (is_possible, is_possible))
        if not is_possible:
            self.check_least(levels, model, clash, lambda some: tuple(model.rows[entry] for entry in some))
            self.check_least(levels, model, rift, model.log)
        out = board.fewest_out()
        self.check_fewest(levels, model, out)
        return len(out)

    def check_least(self, levels, model, found, log_of):
        self.assertEqual(list(found), sorted(set(found)))
        self.assertLessEqual(len(found), papering.lot_bound(levels))
        self.assertFalse(exact.is_possible(levels, log_of(found)))
        for one in found:
            self.assertTrue(exact.is_possible(levels, log_of(tuple(other for other in found if other != one))))

    def check_fewest(self, levels, model, out):
        standing = model.standing()
        self.assertEqual(list(out), sorted(set(out)))
        self.assertTrue(set(out) <= set(standing))
        self.assertTrue(exact.is_possible(levels, self.without(model, out)))
        if out:
            for fewer in itertools.combinations(standing, len(out) - 1):
                self.assertFalse(exact.is_possible(levels, self.without(model, fewer)))

    def without(self, model, out):
        return tuple(model.rows[entry] for entry in model.standing() if entry not in out)

    def test_answers(self):
        rng, many = random.Random(2), {}
        for _ in range(70):
            levels, log = grids.some_log(rng, 8)
            hands = rng.sample(["a", "b", "c", "d"], rng.randint(1, 4))
            boards, models = [Board(levels, hand) for hand in hands], [Model(levels, hand) for hand in hands]
            for row in log:
                at = rng.randrange(len(hands))
                boards[at].note(row)
                models[at].note(row)
            for at in range(1, len(hands)):
                boards[0].hear(boards[at])
                models[0].hear(models[at])
            some = tuple(sorted(rng.sample(["a", "b", "c", "d", "zz"], rng.randint(0, 4))))
            self.assertIs(boards[0].agree(some), exact.is_possible(levels, models[0].log(some)))
            self.assertIs(boards[0].agree(list(some)), boards[0].agree(hands=some))
            found = self.check_answers(boards[0], models[0])
            many[found] = many.get(found, 0) + 1
        self.assertTrue(many[0] > 5 and many[1] > 5 and many[2] > 3, many)

    def test_answers_are_those_of_the_functions(self):
        rng = random.Random(3)
        for _ in range(60):
            levels, log = exact.possible_log(rng, 5) if rng.random() < 0.7 else grids.some_log(rng, 4)
            board = Board(levels, "a")
            for row in log:
                board.note(row)
            level, kind = rng.randrange(len(levels) + 1), rng.choice(["down", "up", "near"])
            for x in exact.interesting(rng, levels, log, 2):
                row = (level, kind, x, x)
                for found, wanted in (
                    (answer(board.member_status, level, x), answer(told.member_status, levels, log, level, x)),
                    (answer(board.results, level, kind, x), answer(results.results, levels, log, level, kind, x)),
                    (answer(board.row_status, row), answer(results.row_status, levels, log, row)),
                    (answer(board.chain), answer(build.build_chain, levels, log)),
                ):
                    self.assertTrue(is_same(found, wanted))

    def test_boards_of_which_none_is_behind_answer_alike(self):
        rng = random.Random(4)
        for _ in range(25):
            levels, rows = self.some_rows(rng)
            boards = [Board(levels, hand) for hand in ("a", "b", "c")]
            models = [Model(levels, hand) for hand in ("a", "b", "c")]
            for _ in range(20):
                self.step(rng, boards, models, rows)
            while True:
                some = [(one, two) for one in boards for two in boards if one is not two and one.is_behind(two)]
                if not some:
                    break
                one, two = rng.choice(some)
                one.hear(two)
            answers = [[board.entries(), board.standing(), board.hands(), board.log(), board.is_possible(), board.clash(), board.rift(),
                        board.fewest_out(), answer(board.chain), answer(board.results, 0, "near", ONE),
                        answer(board.member_status, 0, ONE), [board.turn(entry) for entry in board.entries()]] for board in boards]
            self.assertTrue(is_same(answers[0], answers[1]) and is_same(answers[0], answers[2]))

    def test_at_the_bounds(self):
        rng = random.Random(5)
        board, model = Board(LEVELS, "a"), Model(LEVELS, "a")
        other = Board(LEVELS, "b")
        for at in range(40):
            row = grids.some_row(rng, LEVELS, 12)
            (board if at % 2 else other).note(row)
        self.assertEqual(board.hear(other), 20)
        self.assertFalse(board.is_possible())
        self.assertLessEqual(max(len(board.clash()), len(board.rift())), 4)
        for seed in range(4):
            rng = random.Random(seed)
            board, model = Board(LEVELS, "a"), Model(LEVELS, "a")
            for _ in range(10):
                row = grids.some_row(rng, LEVELS, 3)
                board.note(row)
                model.note(row)
            self.check_answers(board, model)

    def test_a_clash_of_as_many_as_can_be(self):
        many = 5
        levels, log = (("low", ((2 * 10 - 1, 2), NONE)),) + (("low", None),) * 4, []
        for level in range(many):
            log += [(level, "down", (level + 1, 1), (level, 1)), (level, "up", (10 - level - 1, 1), (10 - level, 1))]
        boards = [Board(levels, hand) for hand in "abcdefghij"]
        for board, row in zip(boards, log):
            board.note(row)
        for board in boards[1:]:
            boards[0].hear(board)
        self.assertEqual(len(boards[0].clash()), 10)
        self.assertEqual(boards[0].rift(), tuple("abcdefghij"))
        self.assertEqual(len(boards[0].fewest_out()), 1)


class Interface(unittest.TestCase):
    METHODS = """levels() hand() entries() standing() hands() log() row(entry) turn(entry) note(row) strike(entry) restore(entry)
        undo() hear(other) is_behind(other) is_possible() agree(hands) clash() rift() fewest_out() member_status(level,x)
        results(level,kind,point) row_status(row) chain()"""

    def test_methods_are_those_of_the_class_itself(self):
        for text in self.METHODS.split():
            name, _, rest = text.rstrip(")").partition("(")
            self.assertIn(name, vars(Board))
            found = list(inspect.signature(vars(Board)[name]).parameters)
            self.assertEqual(found, ["self"] + [word for word in rest.split(",") if word])
        self.assertEqual(list(inspect.signature(Board).parameters), ["levels", "hand"])
        self.assertEqual((Board.__module__, Board.__bases__), ("everyformat.board", (object,)))

    def test_arguments_by_name(self):
        board, other = Board(levels=PLAIN, hand="a"), Board(hand="b", levels=PLAIN)
        entry = board.note(row=DOWN)
        board.strike(entry=entry)
        board.restore(entry=entry)
        self.assertEqual((board.row(entry=entry), board.turn(entry=entry), other.is_behind(other=board), other.hear(other=board)),
                         (DOWN, 2, True, 1))
        self.assertEqual(board.member_status(level=0, x=(3, 1)), "never")
        self.assertEqual(board.row_status(row=DOWN), "sure")
        self.assertEqual(board.results(level=0, kind="down", point=(5, 1)), ((NONE, True, NONE, True),))

    def test_lists_in_the_place_of_tuples(self):
        board = Board(listed(LEVELS), "a")
        for row in FOUR:
            board.note(listed(row))
        self.assertEqual((board.levels(), board.log(), len(board.clash())), (LEVELS, FOUR, 4))
        self.assertTrue(is_same(board.row_status(listed(FOUR[0])) if board.is_possible() else board.row(["a", 0]), FOUR[0]))
        self.assertIs(board.agree(["a"]), False)


if __name__ == "__main__":
    unittest.main()
