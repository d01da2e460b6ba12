"""TREES: how many leaves they have, and what they can do without."""

from everyformat.cases import conditions
from everyformat.shapes import tupled


def leaves(trees):
    many, stack = 0, list(trees)
    while stack:
        tree = stack.pop()
        if tree[0] == "cases":
            stack.extend(list(tree[2]))
        else:
            many += 1
    return many


def trimmed(levels, log, program, facts, trees):
    known = conditions(levels, log, program)
    return tuple([_trimmed(tree, len(facts) + 1, known) for tree in tupled(trees)])


def _trimmed(tree, many, known):
    """A TREE for a SYSTEM of so many pairs, trimmed."""
    if tree[0] != "cases":
        return tree
    widths = [len(case) for case in known[tree[1]]]
    parts = [_trimmed(part, many + width, known) for part, width in zip(tree[2], widths)]
    for part, width in zip(parts, widths):
        if not _has_weight(part, many, width):
            return without_pairs(part, many, width)
    return ("cases", tree[1], tuple(parts))


def _has_weight(tree, many, width):
    """Whether some leaf has a weight for one of so many pairs from a place on."""
    if tree[0] == "cases":
        return any([_has_weight(part, many, width) for part in tree[2]])
    return tree[0] == "closed" and any([weight[0] != 0 for weight in tree[1][many:many + width]])


def without_pairs(tree, many, width):
    """A TREE without the weights of so many pairs from a place on."""
    if tree[0] == "closed":
        return ("closed", tree[1][:many] + tree[1][many + width:])
    if tree[0] == "fault":
        return tree
    return ("cases", tree[1], tuple([without_pairs(part, many, width) for part in tree[2]]))
