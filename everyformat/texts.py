"""LEVELS, LOGS, CHAINS and PROGRAMS as texts, and read from texts."""

from everyformat.chains import is_chain
from everyformat.errors import BadLine
from everyformat.lines import DEPTH, Reader, depth_of, is_name, level_by, lines_of, x_by
from everyformat.programs import EXTREMES
from everyformat.ratios import ratio_text, scale_for, size_of
from everyformat.rows import KINDS, SIDES, is_gap


def text_of_levels(levels):
    return "\n".join([_level_line(side, gap) for side, gap in levels])


def _level_line(side, gap):
    if gap is None:
        return side
    return f"{side} gap {ratio_text(gap[0])} {ratio_text(gap[1])}"


def text_of_log(log):
    return "\n".join([_row_line(row) for row in log])


def _row_line(row):
    level, kind, point, result = row
    line = f"{level} {kind} {ratio_text(point)}"
    return line if kind == "member" else line + " " + ratio_text(result)


def text_of_chain(chain):
    far, parts = chain
    lines = [f"far {_texts_of(far)}"]
    for level, (marks, fills) in enumerate(parts):
        lines.extend([f"{level} mark {ratio_text(mark)}" for mark in marks])
        lines.extend([f"{level} fill {_texts_of(fill)}" for fill in fills])
    return "\n".join(lines)


def _texts_of(fractions):
    return " ".join([ratio_text(x) for x in fractions])


def text_of_program(program):
    starts, steps = program
    lines = [f"x{cell} free" if level is None else f"x{cell} in {level}" for cell, level in enumerate(starts)]
    for cell, step in enumerate(steps, start=len(starts)):
        lines.append(f"x{cell} = {_step_text(step)}")
    return "\n".join(lines)


def _step_text(step):
    if step[0] == "round":
        return f"{step[2]}.{step[1]}({sum_text(step[3])})"
    if step[0] == "exact":
        return sum_text(step[1])
    if step[0] in EXTREMES:
        return f"{step[0]}(x{step[1]}, x{step[2]})"
    return f"x{step[2]} if {sum_text(step[1])} else x{step[3]}"


def sum_text(form):
    """The text of a FORM of cells x0, x1, .. ."""
    fixed, factors = form
    terms = [(factor, _part_text(cell, factor)) for cell, factor in enumerate(factors) if factor[0]]
    if fixed[0] or not terms:
        terms.append((fixed, ratio_text(size_of(fixed))))
    text = ""
    for factor, term in terms:
        if text:
            text = text + (" - " if factor[0] < 0 else " + ")
        elif factor[0] < 0:
            text = "-"
        text = text + term
    return text


def _part_text(cell, factor):
    """The size of a factor, unless it is 1, times a cell."""
    size = size_of(factor)
    return f"x{cell}" if size[0] == size[1] else f"{ratio_text(size)}*x{cell}"


def levels_by(text):
    levels = []
    for line, words in enumerate(_words_of(text), start=1):
        if words[0] not in SIDES:
            raise BadLine(line)
        if len(words) == 1:
            levels.append((words[0], None))
        else:
            gap = _fractions_by(words[2:])
            if words[1] != "gap" or not is_gap(gap) or len(words) != 4:
                raise BadLine(line)
            levels.append((words[0], gap))
    if not levels:
        raise BadLine(1)
    return tuple(levels)


def _words_of(text):
    """The words of each line, between which one blank stands."""
    return [line.split(" ") for line in lines_of(text)]


def _fractions_by(words):
    """The FRACTIONS that these X denote, () if one is no X."""
    found = [x_by(word) for word in words]
    return () if None in found else tuple(found)


def log_by(levels, text):
    log = []
    for line, words in enumerate(_words_of(text), start=1):
        row = _row_by(levels, words)
        if row is None:
            raise BadLine(line)
        log.append(row)
    return tuple(log)


def _row_by(levels, words):
    """The ROW that words denote, None if they are none."""
    level, found = level_by(words[0], len(levels)), _fractions_by(words[2:])
    if level is None or words[1:2] == [] or words[1] not in KINDS:
        return None
    if words[1] == "member":
        return (level, words[1], found[0], found[0]) if len(found) == 1 else None
    return (level, words[1], found[0], found[1]) if len(found) == 2 else None


def chain_by(levels, text):
    read = [_chain_line(levels, words, at == 0) for at, words in enumerate(_words_of(text))]
    many = read.index(None) if None in read else len(read)
    right = _right_lines(levels, read[:many])
    if right < len(read) or not read:
        raise BadLine(right + 1)
    return _chain_of(levels, read)


def _right_lines(levels, read):
    """How many of these lines, from the first one on, are those of a CHAIN; more of them are none then, either."""
    if not read or is_chain(levels, _chain_of(levels, read)):
        return len(read)
    low, high = 0, len(read)
    while high - low > 1:
        at = (low + high) // 2
        if is_chain(levels, _chain_of(levels, read[:at])):
            low = at
        else:
            high = at
    return low


def _chain_line(levels, words, is_first):
    """What a line of a CHAIN says, a pair of a level, None in the first line, and FRACTIONS; None if it is none."""
    if is_first:
        far = _fractions_by(words[1:])
        return (None, far) if words[0] == "far" and len(far) == 2 else None
    level, found = level_by(words[0], len(levels)), _fractions_by(words[2:])
    if level is None or words[1:2] not in (["mark"], ["fill"]) or len(found) != (1 if words[1] == "mark" else 3):
        return None
    return (level, found)


def _chain_of(levels, read):
    scale = scale_for([found[0] for _, found in read])
    ordered = sorted(read[1:], key=lambda one: one[1][0][0] * scale // one[1][0][1])
    parts = []
    for level in range(len(levels)):
        own = [found for rank, found in ordered if rank == level]
        marks = tuple([found[0] for found in own if len(found) == 1])
        parts.append((marks, tuple([found for found in own if len(found) == 3])))
    return (read[0][1], tuple(parts))


def program_by(levels, text):
    starts, steps, names = [], [], {}
    for line, written in enumerate(lines_of(text), start=1):
        name, _, rest = written.partition(" ")
        if not is_name(name) or name in names:
            raise BadLine(line)
        if rest == "free" or rest[:3] == "in ":
            if steps:
                raise BadLine(line)
            starts.append(_start_by(levels, rest, line))
        elif rest[:2] == "= " and depth_of(rest) <= DEPTH:
            Reader(levels, line, rest[2:], names, steps, len(starts)).read_line()
        else:
            raise BadLine(line)
        names[name] = len(starts) + len(steps) - 1
    return (tuple(starts), tuple(steps))


def _start_by(levels, rest, line):
    if rest == "free":
        return None
    level = level_by(rest[3:], len(levels))
    if level is None:
        raise BadLine(line)
    return level
