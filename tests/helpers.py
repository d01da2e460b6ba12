"""What several tests use: values with lists for tuples, equality to the kind of value, values nearly as stated."""


def listed(value):
    """value with a list in the place of each tuple, at every depth."""
    if isinstance(value, (tuple, list)):
        return [listed(item) for item in value]
    return value


def turned_about(value, as_list=False):
    """value with tuples and lists in turn, from the outside in; a list first if as_list is True."""
    if not isinstance(value, (tuple, list)):
        return value
    inner = [turned_about(part, not as_list) for part in value]
    return inner if as_list else tuple(inner)


def listed_within(value):
    """value with lists and tuples in turn, from the outside in."""
    return turned_about(value, True)


def is_same(one, other):
    """Whether both are equal and of the same kinds at every depth (True is not 1, a list is no tuple)."""
    if type(one) is not type(other):
        return False
    if isinstance(one, (tuple, list)):
        return len(one) == len(other) and all(is_same(x, y) for x, y in zip(one, other))
    return one == other


def has_list(value):
    if isinstance(value, list):
        return True
    return isinstance(value, tuple) and any(has_list(item) for item in value)


def changed_at(value, path, change):
    """value with change(part) in the place of the part at path, a tuple of places."""
    if not path:
        return change(value)
    parts = list(value)
    parts[path[0]] = changed_at(parts[path[0]], path[1:], change)
    return tuple(parts)


def paths_of(value):
    """The paths of all parts of a value, its own first."""
    found = [()]
    if isinstance(value, tuple):
        for place, part in enumerate(value):
            found += [(place,) + path for path in paths_of(part)]
    return found


def part_at(value, path):
    for place in path:
        value = value[place]
    return value


def nearly(value):
    """Values that are nearly value, each wrong in one place: of the wrong kind, or with something too much."""
    found = []
    for path in paths_of(value):
        part = part_at(value, path)
        if isinstance(part, tuple):
            changes = [list(part), part + (None,), (part,), "word", None, True, 7]
        elif part is True or part is False:
            changes = [1 if part else 0, None, "True", (part,)]
        elif part is None:
            changes = [(), 0, "None", [None]]
        elif isinstance(part, str):
            changes = [part.upper(), part + " ", "", None, 0, (part,), [part]]
        else:
            changes = [True, str(part), None, (part,), [part]]
        found += [changed_at(value, path, lambda _, new=new: new) for new in changes]
    return found


def badly_reduced(value, path):
    """value with the FRACTION at path written in ways that are not in lowest terms, or with a wrong bottom."""
    top, bottom = part_at(value, path)
    wrong = [(2 * top, 2 * bottom), (-top, -bottom), (top, 0), (top, bottom, 1), (top,), ()]
    return [changed_at(value, path, lambda _, new=new: new) for new in wrong]


def nested(depth, inmost):
    """inmost within so many tuples, one within the other."""
    for _ in range(depth):
        inmost = (inmost,)
    return inmost


ODD_THINGS = [
    None, True, False, 0, 1, -1, 10 ** 40, "", "x", "down", (), [], ((),), [()], (None,), (0, 1), [0, 1],
    (1, 0), (2, 4), (True, 1), (1, True), (False, 1), ("0", 1), (0, 1, 1), ((0, 1),), ((0, 1), ()),
    ((0, 1), (0, 1)), ("low", None), (("low", None),), [("low", None)], ("way", 0), ("inside", 0, 1),
    (None, False, None, False), [None, False, None, False], (None, None, None, None), ((), (), (), ()),
    nested(28, (0, 1)), nested(29, None), tuple(range(1000)), "0" * 5000, (10 ** 5000, 1),
    (((0, 1), (0, 1)),) * 50,
]
