"""The examples of sections 4, 5 and 6 of the document, as they stand."""

import unittest

from everyformat import errors, ratios, straight, systems
from tests.examples import Examples

SECTION_4 = '''
>>> fraction(6, -4), plus((1, 2), (1, 3)), over((1, 2), (-3, 1)), power_of((-2, 3), -2)
((-3, 2), (5, 6), (-1, 6), (9, 4))
>>> floor_of((-3, 2)), ceiling_of((-3, 2)), middle((0, 1), (-3, 2)), is_less((1, 3), (1, 2)), sign_of((-3, 2)), size_of((-3, 2))
(-2, -1, (-3, 4), True, -1, (3, 2))
>>> in_order(((1, 2), (1, 3), (-1, 1), (1, 2)))
((-1, 1), (1, 3), (1, 2))
>>> simplest_between((1, 3), (2, 5)), simplest_between((-5, 2), (-1, 2)), simplest_between((0, 1), (1, 100))
((3, 8), (-1, 1), (1, 101))
>>> ratio_text((-3, 2)), ratio_text((0, 1)), ratio_by("12/5")
('-3/2', '0', (12, 5))
>>> ratio_by("2/4")
raises BadLine(line=1)
>>> simplest_between((1, 2), (1, 2))
raises Unfit()
'''

SECTION_5 = '''
>>> form = ((1, 2), ((2, 1), (-1, 3)))
>>> is_form(form, 2), is_form(form, 3), form_at(form, ((3, 1), (1, 1))), named_in(longer_form(form, 3))
(True, False, (37, 6), (0, 1))
>>> single_form(1, 2), plus_forms(form, single_form(1, 2)), scaled_form(form, (-2, 1))
(((0, 1), ((0, 1), (1, 1))), ((1, 2), ((2, 1), (2, 3))), ((-1, 1), ((-4, 1), (2, 3))))
>>> put_in(form, (single_form(1, 2), constant_form((3, 1), 2)), 2)
((-1, 2), ((0, 1), (2, 1)))
>>> solved_for(form, 0)
((-1, 4), ((0, 1), (1, 6)))
>>> span_of(form, (((0, 1), True, (1, 1), False), (None, False, (3, 1), True)))
((-1, 2), True, None, False)
>>> span_of(constant_form((3, 1), 0), ())
((3, 1), True, (3, 1), True)
>>> single_form(2, 2)
raises NoPlace(place=2)
>>> solved_for(constant_form((1, 1), 1), 0)
raises Unfit()
'''

SECTION_6 = '''
>>> none, one, back = (0, 1), (1, 1), (-1, 1)
>>> x, y = (none, (one, none)), (none, (none, one))
>>> three = ((x, False), ((none, (back, one)), True), (((4, 1), (back, back)), False))
>>> holds_at(three, (none, one)), holds_at(three, (one, one))
(True, False)
>>> greatest(x, three, 2)[:3] == ("neared", (2, 1), (none, (1, 2), (1, 2)))
True
>>> is_greatest(y, three, ("reached", (4, 1), (one, none, one), (none, (4, 1))))
True
>>> values_of(x, three, 2), values_of(y, three, 2)
(((0, 1), True, (2, 1), False), ((0, 1), False, (4, 1), True))
>>> more = three + ((((-2, 1), (one, none)), False),)
>>> solve(more, 2)[0], is_closing(more, (none, one, one, (2, 1))), closed_lot(more, 2)
('closed', True, (1, 2, 3))
>>> greatest(y, three[:2], 2)[0], follows(three, y, True, 2)
('endless', True)
>>> tight(((x, False), ((none, (back, none)), False), (y, True)), 2)
(0, 1)
'''

MODULES = [errors, ratios, straight, systems]


class ValueExamples(Examples):
    def test_section_4(self):
        self.run_section(MODULES, SECTION_4)

    def test_section_5(self):
        self.run_section(MODULES, SECTION_5)

    def test_section_6(self):
        self.run_section(MODULES, SECTION_6)


if __name__ == "__main__":
    unittest.main()
