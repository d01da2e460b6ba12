"""A judge of PROGRAMS that are rewritten: rule by rule, by sums of cells as dicts of Fractions.

A sum is a pair (fixed, {cell: factor}) of new cells that are their own traces.
"""

from fractions import Fraction

from tests.judges import pair, quotient


class Rewriter:
    """New cells: their STEPS with sums in the place of FORMS, what each is as a sum, and its level."""

    def __init__(self, starts):
        self.starts = starts
        self.steps = [None] * len(starts)
        self.sums = [(Fraction(0), {cell: Fraction(1)}) for cell in range(len(starts))]
        self.ranks = list(starts)
        self.stands = list(range(len(starts)))

    def sum_of(self, form):
        """A FORM of old cells as a sum."""
        fixed, parts = quotient(form[0]), {}
        for old, factor in enumerate(form[1]):
            more, some = self.sums[self.stands[old]]
            fixed += quotient(factor) * more
            for cell, x in some.items():
                parts[cell] = parts.get(cell, 0) + quotient(factor) * x
        return fixed, {cell: x for cell, x in sorted(parts.items()) if x}

    def work(self, step):
        """Takes the next old STEP."""
        if step[0] == "exact":
            self.stands.append(self.exact(self.sum_of(step[1])))
        elif step[0] == "round":
            self.stands.append(self.round(step[1], step[2], self.sum_of(step[3])))
        elif step[0] == "pick":
            self.stands.append(self.pick(self.sum_of(step[1]), self.stands[step[2]], self.stands[step[3]]))
        else:
            self.stands.append(self.extreme(step[0], *sorted(self.stands[old] for old in step[1:])))

    def exact(self, total):
        return self.alone(total) if self.alone(total) is not None else self.new(("exact", total), total, None)

    def alone(self, total):
        """The cell that a sum is alone."""
        return list(total[1])[0] if total[0] == 0 and list(total[1].values()) == [1] else None

    def round(self, level, kind, total):
        cell = self.alone(total)
        if cell is not None:
            if self.ranks[cell] is not None and self.ranks[cell] <= level:
                return cell
            step = self.steps[cell]
            if kind != "near" and step and step[0] == "round" and step[2] == kind:
                return self.round(level, kind, step[3])
        return self.new(("round", level, kind, total), None, level)

    def pick(self, total, a, b):
        if a == b or not total[1]:
            return a if total[0] >= 0 else b
        return self.new(("pick", total, a, b), None, self.wider(a, b))

    def extreme(self, word, a, b):
        if a == b:
            return a
        for low, high in ((a, b), (b, a)):
            if self.is_plain(low, high):
                return low if word == "least" else high
        return self.new((word, a, b), None, self.wider(a, b))

    def wider(self, a, b):
        return None if None in (self.ranks[a], self.ranks[b]) else max(self.ranks[a], self.ranks[b])

    def new(self, step, total, rank):
        if step in self.steps:
            return self.steps.index(step)
        self.steps.append(step)
        self.sums.append((Fraction(0), {len(self.sums): Fraction(1)}) if total is None else total)
        self.ranks.append(rank)
        return len(self.steps) - 1

    def is_plain(self, one, two):
        return is_plain(self.steps, self.sums, one, two)

    def result(self):
        last, first = self.stands[-1], len(self.starts)
        if last < first:
            copy = ("exact", (Fraction(0), {last: Fraction(1)}))
            return (self.starts, () if last == first - 1 else (self.written(copy, first, {last: last}),))
        needed = self.needed(last)
        places = {cell: at for at, cell in enumerate(list(range(first)) + [cell for cell in sorted(needed) if cell >= first])}
        steps = [self.written(self.steps[cell], places[cell], places) for cell in sorted(needed) if cell >= first]
        return (self.starts, tuple(steps))

    def needed(self, cell):
        found, step = {cell}, self.steps[cell]
        if step is not None:
            for part in step[1:]:
                if isinstance(part, tuple):
                    for other in part[1]:
                        found |= self.needed(other)
            if step[0] in ("least", "greatest", "pick"):
                found |= self.needed(step[-2]) | self.needed(step[-1])
        return found

    def written(self, step, many, places):
        if step[0] in ("least", "greatest"):
            return (step[0], places[step[1]], places[step[2]])
        fixed, parts = step[3] if step[0] == "round" else step[1]
        moved = {places[cell]: x for cell, x in parts.items()}
        form = (pair(fixed), tuple(pair(moved.get(at, 0)) for at in range(many)))
        if step[0] == "pick":
            return ("pick", form, places[step[2]], places[step[3]])
        return step[:-1] + (form,)


def is_plain(steps, sums, one, two):
    """Whether cell one is plainly at most cell two, both being their own traces if those are single."""
    one_step, two_step = steps[one] or ("start",), steps[two] or ("start",)
    if sums[one][1] == sums[two][1] and sums[two][0] >= sums[one][0]:
        return True
    if one_step[:1] + one_step[2:3] == ("round", "down") and one_step[3] == sums[two]:
        return True
    if two_step[:1] + two_step[2:3] == ("round", "up") and two_step[3] == sums[one]:
        return True
    if one_step[0] != "round" or two_step[0] != "round" or one_step[3] != two_step[3]:
        return False
    kinds = (one_step[2], two_step[2])
    narrow, wide = one_step[1] <= two_step[1], one_step[1] >= two_step[1]
    return kinds == ("down", "up") or (kinds in (("down", "down"), ("down", "near")) and narrow) or (
        kinds in (("up", "up"), ("near", "up")) and wide)


def rewritten(program):
    rewriter = Rewriter(program[0])
    for step in program[1]:
        rewriter.work(step)
    return rewriter.result()
