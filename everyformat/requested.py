"""Requests to a desk: their lines, words and texts, by their shape alone."""

from everyformat.errors import BadLine
from everyformat.figures import is_figures
from everyformat.lines import LETTERS, lines_of
from everyformat.programs import ROUNDINGS

# For each first word what stands behind it; a part of the last kinds goes up to the end of the line.
SHAPES = {
    "levels": (), "program": (), "fact": ("line",), "strict": ("line",), "note": ("hand", "line"),
    "strike": ("hand", "hand", "number"), "restore": ("hand", "hand", "number"), "undo": ("hand",),
    "hear": ("hand", "hand"), "log": ("hand",), "chain": ("hand",), "entries": ("hand",), "standing": ("hand",),
    "hands": ("hand",), "turn": ("hand", "hand", "number"), "possible": ("hand",), "behind": ("hand", "hand"),
    "agree": ("hand", "hands"), "clash": ("hand",), "rift": ("hand",), "fewest": ("hand",),
    "member": ("hand", "word", "word"), "results": ("hand", "word", "kind", "word"), "status": ("hand", "line"),
    "claim": ("hand", "claim"), "drift": ("hand", "number"), "exact": ("words",), "play": ("words",),
    "alike": ("hand",), "text": (),
}
WITH_TEXT = ("levels", "program", "play", "alike")
CLAIMS = ("at least ", "above ", "equal ")
HAND_SIGNS = 8
NUMBER_SIGNS = 9


def is_hand(text):
    return 0 < len(text) <= HAND_SIGNS and all([sign in LETTERS for sign in text])


def requests_in(text):
    """The requests in a text, pairs of parts and a text, which is None if there is none; raises BadLine."""
    lines, found, at = lines_of(text), [], 0
    while at < len(lines):
        end = at + 1
        while end < len(lines) and lines[end][:1] == " ":
            end += 1
        parts = parts_of(lines[at])
        if parts is None or (end > at + 1) != (parts[0] in WITH_TEXT):
            raise BadLine(at + 1)
        inner = "\n".join([line[1:] for line in lines[at + 1:end]])
        found.append((parts, inner if end > at + 1 else None))
        at = end
    return found


def parts_of(line):
    """The parts of the first line of a request, the word first; None if it is none by its shape."""
    word = line.split(" ")[0]
    if word not in SHAPES:
        return None
    shape = SHAPES[word]
    if shape and shape[-1] in ("line", "claim"):
        parts = line.split(" ", len(shape))
    else:
        parts = line.split(" ")
    if shape and shape[-1] in ("hands", "words"):
        shape = shape + (shape[-1],) * (len(parts) - 1 - len(shape))
    if len(parts) != len(shape) + 1:
        return None
    return parts if all([_is_part(kind, part) for kind, part in zip(shape, parts[1:])]) else None


def _is_part(kind, part):
    """Whether a part is of a kind by its shape."""
    if kind in ("hand", "hands"):
        return is_hand(part)
    if kind == "number":
        return len(part) <= NUMBER_SIGNS and is_figures(part)
    if kind == "kind":
        return part in ROUNDINGS
    if kind == "claim":
        return claim_of(part) is not None
    return part != ""


def claim_of(text):
    """The pair of the word and of the SUM of a claim, None if it is none by its shape."""
    for begin in CLAIMS:
        if text.startswith(begin) and len(text) > len(begin):
            return (begin[:-1], text[len(begin):])
    return None
