"""Section 23: the desk, request by request, beside Boards and functions that are asked the same."""

import random
import unittest

from everyformat import alike, decide, drift, machine, ratios, texts
from everyformat.board import Board
from everyformat.desk import desk, entry_text, form_by, is_request, stretches_text
from everyformat.errors import BadLine, CanNot, NoPlace, NothingDone, TooMuch, Unfit
from tests.helpers import ODD_THINGS, is_same, listed
from tests.judges import pair

NONE, ONE = (0, 1), (1, 1)
LOW = (("low", None),)
SEVEN = "levels\n low gap 7 0"
WITH_TEXT = {"levels": "low", "program": "a free", "play 1/2 x": "far 1 1", "alike h": "a free"}
WITHOUT = """fact x0|strict  x|note h 0 down 1 0|strike h a 0|restore h a 17|undo h|hear h o|log h|chain h|entries h|standing h|hands h
turn h a 3|possible h|behind h o|agree h a|agree h a b c|clash h|rift h|fewest h|member h 0 1/2|results h 1 near 3|status h 0 up 1 1
claim h at least x0|claim h above  |claim h equal -x1|drift h 0|exact 1|exact 1 2 x|text""".replace("\n", "|").split("|")


def replies(*requests):
    """The replies of a desk to requests, each a line, maybe with its text behind it."""
    return desk("\n".join(requests))


def with_text(line, text):
    return line + "".join("\n " + inner for inner in text.split("\n"))


class Shapes(unittest.TestCase):
    def test_each_request(self):
        for line in WITHOUT:
            self.assertIs(is_request(line), True, line)
            for text in ("x", "", "a\nb", " "):
                self.assertIs(is_request(with_text(line, text)), False, line)
        for line in WITH_TEXT:
            self.assertIs(is_request(line), False, line)
            for text in ("x", "", "a\nb", " ", "\n", " \n\n x"):
                self.assertIs(is_request(with_text(line, text)), True, line)

    def test_one_word_more_or_less(self):
        for line in WITHOUT + list(WITH_TEXT):
            words, text = line.split(" "), WITH_TEXT.get(line)
            end = "" if text is None else with_text("", text)
            for wrong in (" " + line, line + " ", line.replace(" ", "  ", 1) if words[0] not in ("fact", "strict") else " ", line + "\n"):
                if wrong != line and not (wrong == line + " " and words[0] in ("fact", "strict", "note", "status", "claim")):
                    self.assertIs(is_request(wrong + end), False, wrong)
            if len(words) > 1 and words[0] not in ("fact", "strict", "note", "status", "claim", "agree", "exact", "play"):
                self.assertIs(is_request(" ".join(words[:-1]) + end), False, line)
                self.assertIs(is_request(line + " a" + end), False, line)
            self.assertIs(is_request(words[0].upper() + line[len(words[0]):] + end), False)
            self.assertIs(is_request(words[0] + "s" + line[len(words[0]):] + end), False)

    def test_too_few_parts(self):
        for line in ("fact", "fact ", "strict ", "note", "note h", "note h ", "note ", "strike h a", "strike h", "agree", "agree h", "exact",
                     "exact ", "status h", "status h ", "claim h", "claim h at least", "claim h at least ", "claim h above ", "claim h equal",
                     "claim h at most x0", "claim h x0", "member h 0", "member h  1", "results h 0 near", "results h 0 member 1", "text x", "undo",
                     "drift h", "exact 1  2", "exact  1", "agree h  a", ""):
            self.assertIs(is_request(line), False, line)

    def test_hands(self):
        for hand, wanted in (("a", True), ("abcdefgh", True), ("zzzz", True), ("abcdefghi", False), ("A", False), ("a1", False), ("a_b", False),
                             ("", False), ("\u00e4", False)):
            for line in ("note {} x", "strike {} a 0", "strike a {} 0", "restore {} a 0", "restore a {} 0", "undo {}", "hear {} a", "hear a {}", "log {}",
                         "chain {}", "entries {}", "standing {}", "hands {}", "turn {} a 0", "turn a {} 0", "possible {}", "behind {} a", "behind a {}",
                         "agree {} a", "agree a {}", "agree a b {} a", "clash {}", "rift {}", "fewest {}", "member {} 0 1", "results {} 0 up 1",
                         "status {} x", "claim {} equal x", "drift {} 0", "alike {}\n a free"):
                self.assertIs(is_request(line.format(hand)), wanted, line.format(hand))

    def test_numbers(self):
        for number, wanted in (("0", True), ("7", True), ("10", True), ("123456789", True), ("00", False), ("01", False), ("1234567890", False),
                               ("-1", False), ("+1", False), ("1.0", False), ("", False), ("x", False), ("\u0663", False), ("1_0", False)):
            for line in ("strike h a {}", "restore h a {}", "turn h a {}", "drift h {}"):
                self.assertIs(is_request(line.format(number)), wanted, line.format(number))

    def test_what_is_any_word_or_any_line(self):
        for line in ("member h x y", "member h -1 \t", "results h zz up ?", "exact \u20ac a,b", "note h   ", "status h x y z", "fact  ", "claim h equal  x"):
            self.assertIs(is_request(line), True, line)

    def test_things(self):
        for thing in ODD_THINGS + [b"text", ["text"], ("text",), "text\ntext", "text\n\n", "\ntext", " text", "levels\n low\ntext", "Text"]:
            self.assertIs(is_request(thing), False, thing)
        self.assertIs(is_request(thing="text"), True)

    def test_lines_that_are_no_requests(self):
        for text, line in (("text\ntexts", 2), ("", None), ("\n", 1), ("text\n", 2), (" text", 1), ("levels\n low\n", 3), ("levels", 1),
                           ("text\n low", 1), ("text\nlevels\n low\n high\nundo a\nundo", 6), ("text\n\ntext", 2), ("note a", 1),
                           ("program\n \n \nclaim h at least", 4), ("log a\nlog A\nlog", 2), ("text\nundo a\n x\nfoo", 2),
                           ("note a x\nstrike a a 01", 2), ("levels\n bad\nx", 3)):
            if line is None:
                self.assertEqual(desk(text), [])
                continue
            with self.assertRaises(BadLine) as caught:
                desk(text)
            self.assertEqual(caught.exception.line, line, text)


class Texts(unittest.TestCase):
    def test_stretches(self):
        for stretches, wanted in (
            ((), "-"), (((NONE, True, ONE, False),), "[0, 1)"), (((None, False, None, False),), "(.., ..)"),
            (((None, False, (-1, 2), True), ((3, 4), False, None, False)), "(.., -1/2] (3/4, ..)"), (((ONE, True, ONE, True),), "[1, 1]"),
        ):
            self.assertEqual(stretches_text(stretches), wanted)
            self.assertEqual(stretches_text(stretches=listed(stretches)), wanted)

    def test_entries(self):
        self.assertEqual([entry_text(("a", 0)), entry_text(["abcdefgh", 123456789]), entry_text(entry=("b", 10))], ["a 0", "abcdefgh 123456789", "b 10"])

    def test_forms(self):
        for text, many, wanted in (
            ("x0", 1, (NONE, (ONE,))), ("-x0", 2, (NONE, ((-1, 1), NONE))), ("3", 0, ((3, 1), ())), ("-1/2", 1, ((-1, 2), (NONE,))),
            ("x1 - 1/2*(x0 - 3)", 2, ((3, 2), ((-1, 2), ONE))), ("x0 + x0/4", 1, (NONE, ((5, 4),))), ("x0 - x0", 1, (NONE, (NONE,))),
            ("2/4*x11/3", 12, (NONE, (NONE,) * 11 + ((1, 6),))), ("(" * 20 + "x0" + ")" * 20, 1, (NONE, (ONE,))), ("007*x0", 1, (NONE, ((7, 1),))),
        ):
            self.assertTrue(is_same(form_by(text, many), wanted), text)
            self.assertTrue(is_same(form_by(many=many, text=text), wanted), text)

    def test_no_forms(self):
        for text in ("", " ", "x2", "x00", "x", "y0", "a", "X0", "x0 ", " x0", "x0  + x1", "x0+x1", "x0 +", "+x0", "--x0", "x0 * 2", "x0*2", "2*", "2x0",
                     "1/0", "x0/0", "1/", "/2", "near.0(x0)", "down.0(x0)", "least(x0, x1)", "greatest(x0, x1)", "x0 if x0 else x1", "(x0", "x0)", "()",
                     "x0 - -x1", "1.5", "x-1", "x0\n", "x0\nx1", "\n", "1" * 301, "x0/" + "1" * 301, "(" * 21 + "x0" + ")" * 21, "\u0661", "x0, x1", "in",
                     "2*3", "2*(3", "x0 + near", "least(x0, x1) + x0"):
            with self.assertRaises(BadLine) as caught:
                form_by(text, 2)
            self.assertEqual(caught.exception.line, 1, text)
        self.assertEqual(form_by("1" * 300, 0)[0][0], int("1" * 300))


class Requests(unittest.TestCase):
    def check(self, requests, *wanted):
        """The last replies to requests."""
        found = replies(*requests)
        self.assertEqual(len(found), len(requests))
        self.assertEqual(tuple(found[-len(wanted):]), wanted)

    def test_at_first(self):
        self.check(["text", "log a", "entries a", "standing a", "hands a", "possible a", "agree a b c", "clash a", "rift a", "fewest a", "member a 0 1/2",
                    "results a 0 near 5", "status a 0 down 5 5", "undo a", "turn a a 0", "hear a b", "behind a b", "claim a equal 0", "drift a 0",
                    "exact 1", "chain a"],
                   "-", "-", "-", "-", "-", "yes", "yes", "none", "none", "-", "some", "(.., ..)", "some", "refused NothingDone", "refused NoPlace", "0",
                   "no", "sure", "refused NoPlace", "refused Unfit", "far 1 1")

    def test_examples(self):
        self.assertEqual(replies(SEVEN, "note a 0 down 1 0", "note b 0 up 8 10", "hear a b", "possible a", "results a 0 near 5", "member a 0 10", "log a"),
                         ["done", "a 0", "b 0", "1", "yes", "(2, 8)", "sure", "0 down 1 0\n0 up 8 10"])
        self.assertEqual(replies(SEVEN, "note a 0 down 1 0", "note a 0 up 1 15/2", "clash a", "strike a a 1", "standing a", "undo a", "undo a",
                                 "strike a a 1")[3:], ["a 0, a 1", "done", "a 0", "done", "done", "refused CanNot"])

    def test_levels_told_anew(self):
        self.check(["note a 0 down 1 0", with_text("program", "x in 0"), "fact x0", with_text("levels", "low\nhigh"), "log a", "text", "entries a",
                    with_text("program", "x in 1"), "text", "claim a at least x0"], "done", "-", "-", "-", "done", "x0 in 1", "some")
        self.check(["note a 0 down 1 0", with_text("levels", "lower"), "log a"], "refused BadLine", "0 down 1 0")
        self.check([with_text("levels", "")], "refused BadLine")
        self.check([with_text("levels", "low gap 1 1")], "refused BadLine")

    def test_programs_and_facts(self):
        self.check([with_text("program", "x free"), "fact x0 - 1", "claim a above x0", with_text("program", "y free"), "claim a above x0"],
                   "done", "done", "sure", "done", "some")
        self.check([with_text("program", "x free"), "strict x0", "fact x1", "strict x0 -", "claim a above x0", with_text("program", "y in 1"),
                    "claim a above x0", "fact 1"], "done", "refused BadLine", "refused BadLine", "sure", "refused BadLine", "sure", "done")
        self.check([with_text("program", ""), "text", "fact x0", "fact 1", "fact -1", "claim a equal 0"], "done", "-", "refused BadLine", "done", "done", "none")
        self.check([with_text("program", "a free\nb = 2*a"), "fact x1", "fact x0"], "done", "refused BadLine", "done")
        self.check([with_text("program", "a free\nb = near.0(a) + \nc"), "text"], "refused BadLine", "-")

    def test_deeds(self):
        self.check(["note a 0 down 5 0", "note b 0 member 3", "hear a b", "clash a", "rift a", "fewest a", "strike a b 0", "turn a b 0", "possible a",
                    "behind b a", "hear b a", "standing b", "entries b", "hands b", "restore b b 0", "undo b", "undo b", "agree a a b", "log b"],
                   "a 0", "b 0", "1", "a 0, b 0", "a, b", "a 0", "done", "1", "yes", "yes", "1", "a 0", "a 0, b 0", "a", "done", "done", "refused CanNot",
                   "yes", "0 down 5 0")

    def test_deeds_that_are_refused(self):
        self.check(["note a 1 down 5 0", "note a 0 down 5", "note a 0 near 1/0 2", "note a  0 member 1", "entries a", "strike a a 0", "restore a a 0",
                    "note a 0 member 6/4", "restore a a 0", "strike a a 0", "strike a a 0", "hear a a", "behind a a", "log a"],
                   "refused BadLine", "refused BadLine", "refused BadLine", "refused BadLine", "-", "refused NoPlace", "refused NoPlace", "a 0",
                   "refused CanNot", "done", "refused CanNot", "refused Unfit", "refused Unfit", "-")

    def test_answers_of_logs(self):
        self.check([SEVEN, "note a 0 down 1 0", "note a 0 up 8 10", "member a 0 5", "member a 0 10", "member a 0 1/2", "member a 1 5", "member a 0 5.0",
                    "member a 00 5", "results a 0 down 1", "results a 0 up -1/3", "results a 1 up 0", "results a 0 up 1/", "status a 0 down 1 0",
                    "status a 0 down 1 1", "status a 0 near 3 5/2", "status a 1 member 3", "chain a"],
                   "some", "sure", "never", "refused BadLine", "refused BadLine", "some", "[0, 0]", "[-1/3, 0]", "refused BadLine",
                   "refused BadLine", "sure", "never", "some", "refused BadLine", desk(SEVEN + "\nnote a 0 down 1 0\nnote a 0 up 8 10\nchain a")[-1])

    def test_answers_of_impossible_logs(self):
        self.check(["note a 0 up 1 0", "member a 0 5", "results a 0 near 5", "status a 0 near 5 5", "chain a", "possible a", "clash a", "rift a", "fewest a",
                    with_text("program", "x free\ny = near.0(x)"), "claim a equal x0", "drift a 1"],
                   "refused Unfit", "refused Unfit", "refused Unfit", "refused CanNot", "no", "a 0", "a", "a 0", "done", "none", "refused CanNot")

    def test_claims(self):
        program = with_text("program", "a in 0\nb in 0\nc = down.0(1/2*a + 1/2*b)")
        self.check([program, "fact x1 - x0", "claim h at least x2 - x0", "claim h above x2 - x0", "text", "exact 1 2"],
                   "done", "done", "sure", "some", "x0 in 0\nx1 in 0\nx2 = down.0(1/2*x0 + 1/2*x1)", "1, 2, 3/2")
        self.check([program, "claim h equal x3", "claim h at least near.0(x0)", "claim h above  x0", "strict x0 - x1", "strict x1 - x0",
                    "claim h equal x2"], "done", "refused BadLine", "refused BadLine", "refused BadLine", "done", "done", "none")
        many = with_text("program", "a free\nb = near.0(near.0(near.0(near.0(a))))")
        self.check([many, "claim h equal x0", "drift h 1", "drift h 9", "drift h 0"],
                   "refused TooMuch", "refused TooMuch", "refused NoPlace", "refused TooMuch")

    def test_drifts(self):
        program = with_text("program", "a in 0\nb in 0\nc = near.0(1/2*a + 1/2*b)")
        self.check([program, "fact x0", "fact x1 - x0", "fact 1 - x1", "drift h 2", "drift h 0", "drift h 3", "drift h 12"],
                   "1/2 reached", "0 reached", "refused NoPlace", "refused NoPlace")
        self.check([with_text("levels", "low gap 1 0"), with_text("program", "a free\nb = down.0(a)"), "drift h 1"], "1 open")
        self.check([with_text("program", "a free\nb = down.0(a)"), "drift h 1"], "none")
        self.check([with_text("program", "a free"), "fact -1", "drift h 0"], "refused CanNot")

    def test_exact_and_play(self):
        program = with_text("program", "a in 0\nb free\nc = near.0(b)\nd = greatest(a, c)")
        chain = "far 9 1\n0 mark 0\n0 mark 3"
        self.check([program, "exact 1/2 4/6", "exact 1", "exact 1 2 3", "exact 1 x", "exact x"],
                   "1/2, 2/3, 2/3, 2/3", "refused Unfit", "refused Unfit", "refused BadLine", "refused BadLine")
        self.check([program, with_text("play 3 1", chain), with_text("play 3 2", chain), with_text("play 1 2", chain), with_text("play 1", chain),
                    with_text("play 1 ?", chain), with_text("play 3 1", "far 9"), with_text("play 1", "far 9"), with_text("play 3 1", "")],
                   "3, 1, 0, 3", "3, 2, 3, 3", "refused Unfit", "refused Unfit", "refused BadLine", "refused BadLine", "refused BadLine", "refused BadLine")
        self.check(["exact 0", with_text("play 0", "far 1 1"), "exact z", with_text("play 0", "far")],
                   "refused Unfit", "refused Unfit", "refused BadLine", "refused BadLine")

    def test_alike(self):
        program = with_text("program", "a free\nb = down.0(a)")
        self.check([program, with_text("alike h", "x free\ny = down.0(x)\nz = down.0(1/2*x + 1/2*y)"), with_text("alike h", "x free"),
                    with_text("alike h", "x in 0"), with_text("alike h", ""), with_text("alike h", "x"), "fact -1", with_text("alike h", "x free")],
                   "yes", "no", "refused Unfit", "refused Unfit", "refused BadLine", "done", "yes")
        self.check([with_text("alike h", "x free"), with_text("alike h", ""), with_text("alike h", "?")],
                   "refused Unfit", "refused Unfit", "refused BadLine")
        self.check([with_text("alike h", "a = 1"), with_text("program", "a = 1"), with_text("alike h", ""), with_text("alike h", "a = 2/2")],
                   "refused Unfit", "done", "refused Unfit", "yes")
        long = "a free\nb = near.0(a) + near.0(2*a) + near.0(3*a) + near.0(5*a)"
        self.check([with_text("program", long), with_text("alike h", "a free"), with_text("alike h", long)], "refused TooMuch", "yes")

    def test_texts_of_an_empty_line(self):
        self.check([with_text("program", ""), with_text("program", "\n"), with_text("program", "a free\n")], "done", "refused BadLine", "refused BadLine")
        self.check([with_text("levels", " low")], "refused BadLine")

    def test_a_refused_request_changes_nothing(self):
        before = [SEVEN, with_text("program", "a in 0\nb free"), "fact x0 - x1", "note a 0 down 1 0", "note b 0 up 1 2", "hear a b", "strike a b 0"]
        after = ["text", "claim a at least x0 - x1", "log a", "log b", "entries a", "standing a", "turn a b 0", "hands a", "possible a", "undo a", "undo b"]
        wrong = ["note a 9 down 1 0", "note a x", "strict x7", "fact", "strike a b 0", "restore a a 0", "strike a c 0", "hear a a", "member a 5 5",
                 "status a 7 down 1 1", "claim a equal x2", "drift a 2", "exact 1", with_text("levels", "x"), with_text("program", "?"),
                 with_text("play 1", "far 1 1"), with_text("alike a", "x in 0"), "undo c", "turn a a 9", "results a 0 near x", "behind b b"]
        wanted = replies(*before, *after)
        for request in wrong:
            if is_request(request):
                found = replies(*before, request, *after)
                self.assertTrue(found[len(before)].startswith("refused "), request)
                self.assertEqual(found[:len(before)] + found[len(before) + 1:], wanted, request)

    def test_forty_entries(self):
        requests = [f"note {'ab'[at % 2]} 0 member {at}/3" for at in range(40)] + ["hear a b", "entries a", "fewest a", "possible a"]
        found = replies(*requests)
        self.assertEqual(found[-4:], ["20", ", ".join([f"a {at}" for at in range(20)] + [f"b {at}" for at in range(20)]), "-", "yes"])

    def test_the_same_text_again(self):
        text = "\n".join([SEVEN, "note a 0 down 1 0", "log a"])
        self.assertEqual(desk(text), desk(text=text))
        found = desk(text)
        found.append(None)
        self.assertEqual(len(desk(text)), 3)


class Replay(unittest.TestCase):
    """What a desk replies, said once more by Boards and functions."""

    def begin(self, levels):
        self.levels, self.program, self.facts, self.boards = levels, ((), ()), (), {}

    def board(self, hand):
        return self.boards.setdefault(hand, Board(self.levels, hand))

    def reply(self, line, text):
        try:
            return self.said(self.done(line.split(" "), text))
        except (BadLine, CanNot, NoPlace, NothingDone, TooMuch, Unfit) as error:
            return "refused " + type(error).__name__

    def said(self, value):
        return value if isinstance(value, str) else {True: "yes", False: "no", None: "none"}[value]

    def listed(self, things):
        return None if things is None else ", ".join(thing if isinstance(thing, str) else f"{thing[0]} {thing[1]}" for thing in things) or "-"

    def xs(self, values):
        return ", ".join(ratios.ratio_text(x) for x in values)

    def done(self, words, text):
        if words[0] in ("levels", "program", "fact", "strict", "claim", "drift", "exact", "play", "alike", "text"):
            return self.done_by_programs(words, text)
        board = self.board(words[1])
        if words[0] in ("strike", "restore", "turn"):
            found = getattr(board, words[0])((words[2], int(words[3])))
            return "done" if found is None else str(found)
        if words[0] in ("note", "status"):
            row = texts.log_by(self.levels, " ".join(words[2:]))[0]
            return self.listed([board.note(row)]) if words[0] == "note" else board.row_status(row)
        if words[0] in ("hear", "behind"):
            found = getattr(board, {"hear": "hear", "behind": "is_behind"}[words[0]])(self.board(words[2]))
            return found if isinstance(found, bool) else str(found)
        if words[0] == "agree":
            return board.agree(words[2:])
        if words[0] in ("entries", "standing", "hands", "clash", "rift", "fewest"):
            return self.listed(getattr(board, {"fewest": "fewest_out"}.get(words[0], words[0]))())
        if words[0] == "member":
            return board.member_status(int(words[2]), ratios.ratio_by(words[3]))
        if words[0] == "results":
            return stretches_text(board.results(int(words[2]), words[3], ratios.ratio_by(words[4])))
        if words[0] == "log":
            return texts.text_of_log(board.log()) or "-"
        if words[0] == "chain":
            return texts.text_of_chain(board.chain())
        if words[0] == "undo":
            board.undo()
            return "done"
        return board.is_possible()

    def done_by_programs(self, words, text):
        log = self.board(words[1]).log() if words[0] in ("claim", "drift", "alike") else ()
        if words[0] == "levels":
            self.begin(texts.levels_by(text))
        elif words[0] == "program":
            self.program, self.facts = texts.program_by(self.levels, text), ()
        elif words[0] in ("fact", "strict"):
            self.facts += ((form_by(" ".join(words[1:]), len(self.program[0])), words[0] == "strict"),)
        elif words[0] == "claim":
            word, rest = ("at least", words[4:]) if words[2] == "at" else (words[2], words[3:])
            form = form_by(" ".join(rest), len(self.program[0]) + len(self.program[1]))
            return decide.claim_status(self.levels, log, self.program, self.facts, (word, form))
        elif words[0] == "drift":
            found = drift.greatest_drift(self.levels, log, self.program, self.facts, int(words[2]))
            return None if found is None else self.xs(found[:1]) + (" reached" if found[1] else " open")
        elif words[0] == "alike":
            other = texts.program_by(self.levels, text)
            if ((), ()) in (self.program, other):
                raise Unfit()
            return alike.is_alike(self.levels, log, self.program, other, self.facts)
        elif words[0] == "text":
            return texts.text_of_program(self.program) or "-"
        else:
            return self.done_by_worths(words, text)
        return "done"

    def done_by_worths(self, words, text):
        worths = tuple(ratios.ratio_by(word) for word in words[1:])
        if len(worths) != len(self.program[0]):
            raise Unfit()
        if words[0] == "exact":
            return self.xs(machine.run_exact(self.program, worths))
        return self.xs(machine.run_in(self.levels, texts.chain_by(self.levels, text), self.program, worths))

    def some_request(self, rng):
        hand, other = rng.choice("aab"), rng.choice("abbc")
        entry = f"{rng.choice('ab')} {rng.randint(0, 4)}"
        x = ratios.ratio_text(pair(rng.randint(-6, 6)) if rng.random() < 0.8 else (1, 2))
        kind = rng.choice(["down", "up", "near"])
        y = ratios.ratio_text(pair(rng.randint(-6, 6)))
        level = rng.choice("0001")
        form = rng.choice(["x0", "x1 - x0", "1 - x1", "x2 - x0", "x2", "-x2 + 1/2", "2*(x0 - x1)/3", "x3", "0"])
        program = rng.choice(["a in 0\nb free\nc = near.0(b)", "a free\nb free\nc = down.0(1/2*a + 1/2*b)", "a in 0\nb in 0\nc = least(a, b)", "a in 1", ""])
        return rng.choice([
            f"note {hand} {level} {kind} {x} {y}", f"note {hand} {level} member {x}", f"note {hand} 0 down {x} {x}", f"strike {hand} {entry}",
            f"restore {hand} {entry}", f"undo {hand}", f"hear {hand} {other}", f"hear {hand} {other}", f"log {hand}", f"chain {hand}", f"entries {hand}",
            f"standing {hand}", f"hands {hand}", f"turn {hand} {entry}", f"possible {hand}", f"behind {hand} {other}", f"agree {hand} {other} a",
            f"clash {hand}", f"rift {hand}", f"fewest {hand}", f"member {hand} 0 {x}", f"results {hand} 0 {kind} {x}", f"status {hand} 0 {kind} {x} {y}",
            f"claim {hand} at least {form}", f"claim {hand} above {form}", f"claim {hand} equal {form}", f"drift {hand} {rng.randint(0, 3)}", f"exact {x} {y}",
            "exact 1", "text", f"fact {form}", f"strict {form}", ("program", program), ("alike " + hand, program),
            (f"play {x} {y}", "far 20 1\n0 mark 0\n0 fill 1 6 1\n0 mark -2"), ("levels", rng.choice(["low", "high gap 9 0", "low\nhigh", "none"])),
        ])

    def test_at_random(self):
        rng, seen = random.Random(1), {}
        for _ in range(120):
            self.begin(LOW)
            requests = [self.some_request(rng) for _ in range(rng.randint(1, 40))]
            requests = [one for one in requests if rng.random() < 0.3 or one[0] != "levels"]
            found = desk("\n".join(one if isinstance(one, str) else with_text(*one) for one in requests))
            self.assertEqual(len(found), len(requests))
            for request, reply in zip(requests, found):
                line, text = (request, None) if isinstance(request, str) else request
                self.assertEqual(reply, self.reply(line, text), request)
                key = reply if reply.startswith("refused") else line.split(" ")[0]
                seen[key] = seen.get(key, 0) + 1
        self.assertEqual({key for key in seen if key.startswith("refused")},
                         {"refused " + word for word in ("BadLine", "CanNot", "NoPlace", "NothingDone", "Unfit")})
        self.assertGreaterEqual(len(seen), 30 + 5)


if __name__ == "__main__":
    unittest.main()
