"""The general rules of section 2, for every function: lists for tuples, names, what is returned, no change."""

import copy
import unittest

from tests.helpers import has_list, is_same, listed, listed_within, turned_about
from tests.more_samples import MORE_SAMPLES
from tests.samples import SAMPLES


LISTS = ("traces", "cell_levels", "letter_forms", "denials", "conditions", "all_reduced", "loop_run",
         "size_row", "desk")


def parts_of_result(function, result):
    """A result in a tuple, or the items of one that is said to be a list."""
    if function.__name__ in LISTS:
        return tuple(result) if isinstance(result, list) else ([],)
    return (result,)


def with_lists(named, things, change):
    return {name: value if name in things else change(value) for name, value in named.items()}


class GeneralRules(unittest.TestCase):
    def check_each(self, check):
        for function, named, things in SAMPLES + MORE_SAMPLES:
            with self.subTest(function=function.__name__, named=named):
                check(function, named, things)

    def test_each_thing_of_a_sample_is_as_stated(self):
        def check(function, named, things):
            if things:
                self.assertIs(function(**named), True)
        self.check_each(check)

    def test_by_position_and_by_name(self):
        def check(function, named, _):
            self.assertTrue(is_same(function(*named.values()), function(**named)))
        self.check_each(check)

    def test_lists_in_the_place_of_tuples(self):
        def check(function, named, things):
            wanted = function(**named)
            for change in (listed, turned_about, listed_within):
                changed = with_lists(named, things, change)
                self.assertTrue(is_same(function(**changed), wanted))
                self.assertTrue(is_same(function(*changed.values()), wanted))
        self.check_each(check)

    def test_what_is_returned_is_of_tuples(self):
        def check(function, named, things):
            for given in (named, with_lists(named, things, listed)):
                self.assertFalse(has_list(parts_of_result(function, function(**given))))
        self.check_each(check)

    def test_arguments_stay_as_they_were(self):
        def check(function, named, things):
            changed = with_lists(named, things, listed)
            before = copy.deepcopy(changed)
            function(**changed)
            self.assertTrue(all(is_same(changed[name], before[name]) for name in before))
        self.check_each(check)

    def test_the_same_call_again_returns_an_equal_result(self):
        def check(function, named, _):
            wanted = function(**named)
            function(**named)
            self.assertTrue(is_same(function(**copy.deepcopy(named)), wanted))
        self.check_each(check)

    def test_lists_that_are_returned_belong_to_the_caller(self):
        def check(function, named, _):
            found = function(**named)
            if isinstance(found, list):
                before = copy.deepcopy(found)
                found.append(None)
                self.assertTrue(is_same(function(**named), before))
        self.check_each(check)

    def test_lists_changed_afterwards_do_not_change_a_result(self):
        def check(function, named, things):
            changed = with_lists(named, things, listed)
            result = function(**changed)
            before = copy.deepcopy(result)
            for value in changed.values():
                if isinstance(value, list):
                    value.clear()
            self.assertTrue(is_same(result, before))
        self.check_each(check)


if __name__ == "__main__":
    unittest.main()
