"""What values are built of: numbers, truths, tuples, sets; and places that there are."""

from everyformat.errors import NoPlace


def tupled(value):
    """value with a tuple in the place of each list, at every depth."""
    if isinstance(value, (list, tuple)):
        return tuple([tupled(item) for item in value])
    return value


def is_number(thing):
    return isinstance(thing, int) and not isinstance(thing, bool)


def is_truth(thing):
    return thing is True or thing is False


def is_word_of(thing, words):
    """Whether thing is one of these strings."""
    return isinstance(thing, str) and thing in words


def is_tuple_of(thing, many):
    return isinstance(thing, tuple) and len(thing) == many


def is_place(thing, many):
    """Whether thing is a number from 0 on that is less than many."""
    return is_number(thing) and 0 <= thing < many


def is_set_below(thing, many):
    """Whether thing is an ascending tuple of numbers from 0 on that are below many."""
    if not isinstance(thing, tuple) or not all([is_number(item) for item in thing]):
        return False
    if not thing:
        return True
    rises = all([one < other for one, other in zip(thing, thing[1:])])
    return rises and thing[0] >= 0 and thing[-1] < many


def check_place(place, many):
    """Raises NoPlace(place) if place is none of the places 0 to many - 1."""
    if place < 0 or place >= many:
        raise NoPlace(place)
