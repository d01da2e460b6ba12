"""Boards: the LOGS of several hands, put together in any order."""

from everyformat.build import build_chain
from everyformat.errors import CanNot, NoPlace, NothingDone, Unfit
from everyformat.possible import is_possible, least_lot
from everyformat.results import results, row_status
from everyformat.shapes import check_place, tupled
from everyformat.told import member_status


class Board:
    """What a HAND has noted, and what it has heard of: ROWS and turns by ENTRIES, and its own deeds.

    A deed is a pair of its ENTRY and of whether it left it standing.
    """

    def __init__(self, levels, hand):
        self._levels = tupled(levels)
        self._hand = hand
        self._rows = {}
        self._turns = {}
        self._deeds = []

    def levels(self):
        return self._levels

    def hand(self):
        return self._hand

    def entries(self):
        return sorted(list(self._rows))

    def standing(self):
        return [entry for entry in self.entries() if self._stands(entry)]

    def hands(self):
        standing = self.standing()
        return tuple([entry[0] for at, entry in enumerate(standing) if at == 0 or standing[at - 1][0] != entry[0]])

    def log(self):
        return tuple([self._rows[entry] for entry in self.standing()])

    def row(self, entry):
        return self._rows[self._known(entry)]

    def turn(self, entry):
        return self._turns[self._known(entry)]

    def _known(self, entry):
        """The ENTRY as a tuple; raises NoPlace if it is not known."""
        entry = tupled(entry)
        if entry not in self._rows:
            raise NoPlace(entry)
        return entry

    def _stands(self, entry):
        return self._turns[entry] & 1 == 0

    def note(self, row):
        row = tupled(row)
        check_place(row[0], len(self._levels))
        entry = (self._hand, len([known for known in self._rows if known[0] == self._hand]))
        self._rows[entry] = row
        self._turns[entry] = 0
        self._deeds.append((entry, True))
        return entry

    def strike(self, entry):
        self._turn_to(entry, False)

    def restore(self, entry):
        self._turn_to(entry, True)

    def _turn_to(self, entry, standing):
        entry = self._known(entry)
        if self._stands(entry) == standing:
            raise CanNot()
        self._turns[entry] += 1
        self._deeds.append((entry, standing))

    def undo(self):
        if not self._deeds:
            raise NothingDone()
        entry, standing = self._deeds[-1]
        if self._stands(entry) != standing:
            raise CanNot()
        self._deeds.pop()
        self._turns[entry] += 1

    def _news(self, other):
        """The ENTRIES of which another Board knows more, as triples with their ROWS and turns."""
        if self._levels != other.levels() or self._hand == other.hand():
            raise Unfit()
        told = [(entry, other.row(entry), other.turn(entry)) for entry in other.entries()]
        return [one for one in told if one[0] not in self._rows or self._turns[one[0]] < one[2]]

    def hear(self, other):
        many = len(self._rows)
        for entry, row, turn in self._news(other):
            self._rows[entry] = row
            self._turns[entry] = turn
        return len(self._rows) - many

    def is_behind(self, other):
        return len(self._news(other)) > 0

    def is_possible(self):
        return is_possible(self._levels, self.log())

    def agree(self, hands):
        return is_possible(self._levels, self._log_of(hands))

    def _log_of(self, hands):
        """The ROWS of the LOG by these HANDS."""
        return [self._rows[entry] for entry in self.standing() if entry[0] in hands]

    def clash(self):
        if self.is_possible():
            return None
        standing = self.standing()
        return tuple([standing[number] for number in least_lot(self._levels, self.log())])

    def rift(self):
        if self.is_possible():
            return None
        hands = self.hands()
        for hand in self.hands():
            others = tuple([other for other in hands if other != hand])
            if not self.agree(others):
                hands = others
        return hands

    def fewest_out(self):
        """Tries what is one more out each time: of a lot that does not go together one must be out."""
        standing, tried = self.standing(), [()]
        while True:
            found = {}
            for out in tried:
                kept = [entry for entry in standing if entry not in out]
                log = [self._rows[entry] for entry in kept]
                if is_possible(self._levels, log):
                    return out
                for number in least_lot(self._levels, log):
                    found[tuple(sorted([*out, kept[number]]))] = True
            tried = list(found)

    def member_status(self, level, x):
        return member_status(self._levels, self.log(), level, x)

    def results(self, level, kind, point):
        return results(self._levels, self.log(), level, kind, point)

    def row_status(self, row):
        return row_status(self._levels, self.log(), row)

    def chain(self):
        return build_chain(self._levels, self.log())
