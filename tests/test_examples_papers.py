"""The examples of sections 16, 21, 22 and 23 of the document, as they stand."""

import unittest

from everyformat import board, desk, errors, far, loops, papers, ratios, trees
from tests.examples import Examples

SECTION_16 = '''
>>> one, less, none = (1, 1), (-1, 1), (0, 1)
>>> plain, program = (("low", None),), ((0, None), (("round", 0, "near", (none, (none, one))),))
>>> facts, claim = (((none, (less, one)), False),), ("at least", (none, (less, none, one)))
>>> seven = (("low", ((7, 1), (0, 1))),)
>>> far = ((0, "down", (1, 1), (0, 1)), (0, "up", (8, 1), (10, 1)))
>>> sure, twice = ("sure", (), program, facts, claim), (2, 1)
>>> trees = (("cases", 0, (("closed", (one, one, one)), ("closed", (none, one, one)), ("closed", (twice, one, one)))),)
>>> is_paper(plain, sure, trees), is_paper(plain, denied(sure), trees), told_by(plain, denied(sure), trees)
(True, False, 'no')
>>> leaves(trees), trimmed(plain, (), program, facts, trees) == trees
(3, True)
>>> trimmed(plain, (), program, facts, (("cases", 0, (("closed", (one, one, none)),) * 3),))
(('closed', ((1, 1), (1, 1))),)
>>> few = ((twice, one), (((none, one), ()),))
>>> is_paper(plain, ("not sure", (), program, (), claim), (few, (one, none)))
True
>>> bad = ("impossible", far + ((0, "near", (5, 1), none),))
>>> stands(seven, bad), is_paper(seven, bad, ((2,), ("long", 0, (none, False, (10, 1), False))))
(True, True)
>>> paper(plain * 2, ("same", ((1, "down"), (0, "down")), ((0, "down"),)))
((0, 'down'),)
'''

SECTION_21 = '''
>>> side = (("low", None),)
>>> chain = (((20, 1), (1, 1)), ((((-12, 5), (1, 1), (5, 2)), ()),))
>>> loop = ("near", (-3, 4), (0, 1))
>>> loop_run(side, chain, loop, (1, 1), 4), ring_of(side, chain, loop, (1, 1), 4), loop_log(side, chain, loop, (1, 1), 1)
([(1, 1), (-12, 5), (5, 2), (-12, 5), (5, 2)], (1, 2), ((0, 'near', (-3, 4), (-12, 5)),))
>>> size_row(1, (-3, 4), 4), greatest_size(1, (-3, 4)), last_outward(1, (-3, 4)), size_row(2, (-1, 2), 4)
([(1, 1), (5, 2), (11, 4), (13, 8)], (11, 4), 2, [(1, 1), (5, 1), (7, 1), (-1, 1)])
>>> [never_runs_off(many, ("near", (-7, 8), (3, 1))) for many in (1, 2)], never_runs_off(3, ("down", (-1, 1), (3, 1)))
([True, False], True)
>>> seven = ("near", (-1, 2), (3, 1))
>>> made, start = near_chain(2, seven, (1, 10))
>>> is_less((69, 10), size_of(minus(loop_run(side + side, made, seven, start, 2)[2], still_point(seven))))
True
>>> off_chain(1, loop, 3)
raises CanNot()
>>> last_outward(2, (-7, 8))
raises Unfit()
'''

SECTION_22 = '''
>>> levels = (("low", ((7, 2), (0, 1))), ("low", None))
>>> a, b = Board(levels, "a"), Board(levels, "b")
>>> a.note((0, "down", (1, 1), (0, 1))), a.note((1, "down", (2, 1), (9, 10)))
(('a', 0), ('a', 1))
>>> b.note((1, "up", (2, 1), (31, 10))), b.note((0, "up", (3, 1), (4, 1)))
(('b', 0), ('b', 1))
>>> a.is_possible(), b.hear(a), b.is_possible(), b.rift(), len(b.clash()), len(b.fewest_out())
(True, 2, False, ('a', 'b'), 4, 1)
>>> b.strike(("a", 1))
>>> a.hear(b), a.is_possible(), a.log() == b.log(), a.is_behind(b), a.turn(("a", 1))
(2, True, True, False, 1)
>>> a.undo()
raises CanNot()
'''

SECTION_23 = r'''
>>> desk("levels\n low gap 7 0\nnote a 0 down 1 0\nnote b 0 up 8 10\nhear a b\npossible a\nresults a 0 near 5\nmember a 0 10\nlog a")
['done', 'a 0', 'b 0', '1', 'yes', '(2, 8)', 'sure', '0 down 1 0\n0 up 8 10']
>>> desk("levels\n low gap 7 0\nnote a 0 down 1 0\nnote a 0 up 1 15/2\nclash a\nstrike a a 1\nstanding a\nundo a\nundo a\nstrike a a 1")[3:]
['a 0, a 1', 'done', 'a 0', 'done', 'done', 'refused CanNot']
>>> desk("program\n a in 0\n b in 0\n c = down.0(1/2*a + 1/2*b)\nfact x1 - x0\nclaim h at least x2 - x0\nclaim h above x2 - x0\ntext\nexact 1 2")[2:]
['sure', 'some', 'x0 in 0\nx1 in 0\nx2 = down.0(1/2*x0 + 1/2*x1)', '1, 2, 3/2']
>>> form_by("x1 - 1/2*(x0 - 3)", 2), is_request("note a x"), is_request("undo"), stretches_text((((0, 1), False, None, False),))
(((3, 2), ((-1, 2), (1, 1))), True, False, '(0, ..)')
>>> desk("text\ntexts")
raises BadLine(line=2)
'''


class PaperExamples(Examples):
    def test_section_16(self):
        self.run_section([errors, ratios, papers, trees], SECTION_16)

    def test_section_21(self):
        self.run_section([errors, ratios, loops, far], SECTION_21)

    def test_section_22(self):
        self.run_section([errors, board], SECTION_22)

    def test_section_23(self):
        self.run_section([errors, desk], SECTION_23)


if __name__ == "__main__":
    unittest.main()
