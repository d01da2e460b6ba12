"""The names, arguments and kinds of values that the interface lists, and the error classes."""

import importlib
import inspect
import pathlib
import unittest

from everyformat import errors

FUNCTIONS = {
    "ratios": """is_fraction(thing), fraction(top, bottom), whole(number), plus(x, y), minus(x, y), times(x, y),
        over(x, y), power_of(x, many), is_less(x, y), sign_of(x), size_of(x), floor_of(x), ceiling_of(x),
        middle(x, y), in_order(fractions), simplest_between(low, high), ratio_text(x), ratio_by(text)""",
    "straight": """is_form(thing, many), form_at(form, worths), constant_form(x, many), single_form(place, many),
        plus_forms(form, other), scaled_form(form, x), longer_form(form, many), put_in(form, forms, many),
        named_in(form), solved_for(form, place), span_of(form, stretches)""",
    "systems": """is_system(thing, many), holds_at(system, worths), solve(system, many),
        is_closing(system, thing), closed_lot(system, many), greatest(form, system, many),
        is_greatest(form, system, thing), values_of(form, system, many), follows(system, form, strict, many),
        tight(system, many), inner(system, many)""",
    "rows": """is_gap(thing), is_levels(thing), is_row(levels, thing), is_log(levels, thing), goes_right(row),
        told(levels, log, level), mirrored(levels, log)""",
    "zones": """is_stretch(thing), is_stretches(thing), in_stretches(stretches, x), stretch_at(stretches, x),
        join_stretches(some), meet_stretches(stretches, others), rest_of(stretches), run_with(stretches, stretch),
        zone(levels, row), bars(levels, log, level), is_free(levels, log, level, x), excess(gap, u, v),
        lets(gap, stretch)""",
    "possible": """fault(levels, log), is_fault(levels, log, thing), is_possible(levels, log),
        is_possible_lot(levels, log, lot), possible_rows(levels, log), least_lot(levels, log),
        is_least_lot(levels, log, thing), key_rows(levels, log), next_possible(levels, log, row),
        lot_bound(levels), sharp_log(many)""",
    "chains": """is_chain(levels, thing), is_member(levels, chain, level, x),
        round_by(levels, chain, level, kind, point), next_above(levels, chain, level, x),
        next_below(levels, chain, level, x), count_between(levels, chain, level, low, high),
        mirrored_chain(levels, chain), holds(levels, chain, row)""",
    "build": """build_chain(levels, log), chain_with(levels, log, level, x), chain_without(levels, log, level, x),
        parted_by(levels, log, level, x), least_step(levels, level)""",
    "told": """member_status(levels, log, level, x), sure_members(levels, log, level),
        free_stretches(levels, log, level), can_have(levels, log, members, others),
        why_not(levels, log, members, others)""",
    "results": """results(levels, log, level, kind, point), sure_result(levels, log, level, kind, point),
        farthest(levels, log, level, kind, point), row_status(levels, log, row)""",
    "leastgap": """least_gap(levels, log, level, g), gap_lot(levels, log, level, g),
        is_gap_lot(levels, log, level, g, thing)""",
    "programs": """is_program(levels, thing), traces(levels, program), cell_levels(levels, program),
        straightened(levels, program, way), mirrored_program(program)""",
    "machine": """run_exact(program, worths), run_in(levels, chain, program, worths),
        log_of_run(levels, chain, program, worths), way_of(levels, chain, program, worths), exact_way(program, worths)""",
    "texts": """text_of_levels(levels), text_of_log(log), text_of_chain(chain), text_of_program(program),
        levels_by(text), log_by(levels, text), chain_by(levels, text), program_by(levels, text)""",
    "cases": "letter_forms(program), denials(program, claim), conditions(levels, log, program)",
    "decide": """signs(levels, log, program, facts, form), claim_status(levels, log, program, facts, claim),
        some_run(levels, log, program, facts), counter(levels, log, program, facts, claim),
        ways(levels, log, program, facts), leans_on(levels, log, program, facts, claim),
        trees(levels, log, program, facts, claim)""",
    "drift": """exact_twin(program), worth_stretch(levels, log, program, facts, form),
        drift_stretch(levels, log, program, facts, cell), greatest_drift(levels, log, program, facts, cell),
        is_drift(levels, log, program, facts, cell, thing), drift_run(levels, log, program, facts, cell, size),
        drift_status(levels, log, program, facts, cell, rate, shift),
        least_shift(levels, log, program, facts, cell, rate)""",
    "alike": """beside(program, other), is_never_above(levels, log, program, facts, one, two),
        is_alike(levels, log, program, other, facts), parted(levels, log, program, other, facts),
        is_let(levels, log, program, facts, place, step), needless(levels, log, program, facts)""",
    "rewrite": """lean(program), with_step(program, place, step), plainly_at_most(levels, program, one, two),
        rewritten(levels, program)""",
    "ends": """exact_copy(program), two_ends(levels, program), is_held(levels, log, program, other, facts),
        unheld(levels, log, program, other, facts), ends_width(levels, log, program, facts),
        choice_status(levels, log, program, facts, number), sure_choices(levels, log, program, facts),
        wrong_choice(levels, log, program, facts, number)""",
    "passings": """is_word(levels, thing), reduced(word), is_same(word, other), all_reduced(many), turned_word(word),
        passed_on(levels, chain, word, point), passing_log(levels, chain, word, point), never_above(levels, word, other),
        above_chain(levels, word, other), parting_chain(levels, word, other)""",
    "loops": """is_loop(thing), still_point(loop), one_round(levels, chain, loop, y),
        loop_run(levels, chain, loop, start, rounds), loop_log(levels, chain, loop, start, rounds),
        ring_of(levels, chain, loop, start, rounds), never_runs_off(many, loop)""",
    "far": """size_row(many, rate, length), last_outward(many, rate), greatest_size(many, rate),
        farthest_value(many, rate), is_reached(levels, rate), near_chain(many, loop, hair), off_chain(many, loop, rounds)""",
    "trees": "leaves(trees), trimmed(levels, log, program, facts, trees)",
    "papers": """is_statement(levels, thing), denied(statement), stands(levels, statement), paper(levels, statement),
        is_paper(levels, statement, thing), told_by(levels, statement, thing)""",
    "desk": "desk(text), is_request(thing), stretches_text(stretches), entry_text(entry), form_by(text, many)",
    "gaps": "worst_gap(levels, chain, level), keeps_gaps(levels, chain), shows(levels, chain, log)",
}
ERRORS = {
    "NoPlace": (LookupError, ["place"]), "NothingDone": (LookupError, []), "BadLine": (ValueError, ["line"]),
    "CanNot": (ValueError, []), "TooMuch": (ValueError, []), "Unfit": (ValueError, []),
}


def listed_calls(text):
    """The pairs of a name and of its parameters in a text like f(a, b), g()."""
    calls = []
    for part in " ".join(text.split()).split("), "):
        name, _, rest = part.rstrip(")").partition("(")
        calls.append((name, [word for word in rest.split(", ") if word]))
    return calls


class Interface(unittest.TestCase):
    def test_functions_are_there_with_their_parameters(self):
        for file, text in FUNCTIONS.items():
            module = importlib.import_module("everyformat." + file)
            for name, parameters in listed_calls(text):
                with self.subTest(file=file, name=name):
                    self.check_function(module, name, parameters)

    def check_function(self, module, name, parameters):
        function = getattr(module, name)
        self.assertTrue(inspect.isfunction(function))
        self.assertEqual(function.__module__, module.__name__)
        self.assertEqual(function.__name__, name)
        found = inspect.signature(function).parameters.values()
        self.assertEqual([one.name for one in found], parameters)
        self.assertTrue(all(one.kind == one.POSITIONAL_OR_KEYWORD for one in found))
        self.assertTrue(all(one.default is one.empty for one in found))

    def test_functions_are_defined_where_they_are_listed(self):
        folder = pathlib.Path(importlib.import_module("everyformat").__file__).parent
        for file, text in FUNCTIONS.items():
            source = "\n" + (folder / (file + ".py")).read_text()
            for name, _ in listed_calls(text):
                self.assertIn("\ndef " + name + "(", source)

    def test_error_classes(self):
        for name, (base, attributes) in ERRORS.items():
            with self.subTest(name):
                cls = getattr(errors, name)
                self.assertEqual(cls.__bases__, (base,))
                self.assertEqual(cls.__module__, "everyformat.errors")
                values = [("a", 0)] * len(attributes)
                for made in (cls(*values), cls(**dict(zip(attributes, values)))):
                    self.assertEqual([getattr(made, key) for key in attributes], values)

    def test_no_error_class_is_below_another(self):
        for name in ERRORS:
            for other in ERRORS:
                if name != other:
                    self.assertFalse(issubclass(getattr(errors, name), getattr(errors, other)))

    def test_errors_are_raised_and_caught_by_their_bases(self):
        with self.assertRaises(LookupError):
            raise errors.NoPlace(3)
        with self.assertRaises(LookupError):
            raise errors.NothingDone()
        for error in (errors.BadLine(1), errors.CanNot(), errors.TooMuch(), errors.Unfit()):
            with self.assertRaises(ValueError):
                raise error


if __name__ == "__main__":
    unittest.main()
