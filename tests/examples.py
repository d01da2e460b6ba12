"""Runs examples of the document: a line with >>> and, if it has a result, this on the line behind it."""

import unittest

from tests.helpers import is_same


def names_of(modules):
    return {name: value for module in modules for name, value in vars(module).items() if not name.startswith("_")}


def steps_of(text):
    """The pairs of a line with >>> and of what stands behind it, None if nothing does."""
    steps = []
    for line in text.strip().splitlines():
        if line.startswith(">>> "):
            steps.append((line[4:], None))
        else:
            steps[-1] = (steps[-1][0], line)
    return steps


class Examples(unittest.TestCase):
    """What a test of examples is based on."""

    def run_section(self, modules, text):
        names = names_of(modules)
        for source, expected in steps_of(text):
            with self.subTest(source):
                self.run_step(names, source, expected)

    def run_step(self, names, source, expected):
        if expected is None:
            exec(source, names)
        elif expected.startswith("raises "):
            self.run_failing(names, source, expected[7:])
        else:
            found, wanted = eval(source, names), eval(expected, names)
            self.assertTrue(is_same(found, wanted), f"{found!r} is not {wanted!r}")

    def run_failing(self, names, source, expected):
        wanted = eval(expected, names)
        with self.assertRaises(Exception) as caught:
            eval(source, names)
        self.assertIs(type(caught.exception), type(wanted))
        self.assertEqual(vars(caught.exception), vars(wanted))
