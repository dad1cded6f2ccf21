"""A Board: a HEAP with names for its objects, deeds of a program and sweeps, taken back and done again."""

from gatheryard.basics import check_members, check_places, frozen
from gatheryard.errors import NoPlace, NothingDone, TooMuch
from gatheryard.moves import heap_at, stands_of
from gatheryard.programs import NAMED, done

# How many objects there are at most.
MOST_OBJECTS = 12


class Board:
    """A HEAP and a plain RULE that deeds change."""

    def __init__(self, heap, rule):
        heap = frozen(heap)
        # All that was so behind 0, 1, .. deeds, also behind those that are taken back: for each the HEAP, the RULE,
        # the names of the objects, the names of the freed ones.
        self._states = [(heap, frozen(rule), tuple(range(len(heap[1]))), ())]
        self._deeds = []
        self._at = 0

    def __eq__(self, other):
        return isinstance(other, Board) and self._states[self._at] == other._states[other._at]

    def __ne__(self, other):
        return not self == other

    def do(self, deed):
        """The program does deed."""
        deed = frozen(deed)
        heap = done(self.heap(), deed)
        if len(heap[1]) > MOST_OBJECTS:
            raise TooMuch()
        names = self.names()
        if deed[0] == "new":
            names = names + (max(names + self.freed(), default=-1) + 1,)
        self._move_on(deed, (heap, self.rule(), names, self.freed()))

    def sweep(self, lot):
        """This LOT is swept, and who is kept is moved by the RULE."""
        lot = frozen(lot)
        state = self._state_behind((lot,))
        self._move_on(("sweep", lot), state)

    def sweeps(self, row):
        """The LOTS of row are swept one behind the other, as one deed."""
        row = frozen(row)
        state = self._state_behind(row)
        self._move_on(("sweeps", row), state)

    def pick(self, lot, area):
        """From now on the RULE picks area of lot."""
        lot = frozen(lot)
        check_members((area,), lot)
        rule = tuple([(own, (area,) if own == lot else picks) for own, picks in self.rule()])
        self._move_on(("pick", lot, area), (self.heap(), rule, self.names(), self.freed()))

    def undo(self):
        """Takes the last deed back, and returns its name."""
        if self._at == 0:
            raise NothingDone()
        self._at -= 1
        return name_of(self._deeds[self._at])

    def redo(self):
        """Does the deed that was taken back last again, and returns its name."""
        if self._at == len(self._deeds):
            raise NothingDone()
        self._at += 1
        return name_of(self._deeds[self._at - 1])

    def heap(self):
        """The HEAP as it is."""
        return self._states[self._at][0]

    def rule(self):
        """The RULE as it is."""
        return self._states[self._at][1]

    def names(self):
        """The tuple of the names of the objects."""
        return self._states[self._at][2]

    def freed(self):
        """The set of the names of all objects that were freed."""
        return self._states[self._at][3]

    def place_of(self, name):
        """The number of the object with this name, None if it was freed."""
        if name in self.freed():
            return None
        if name not in self.names():
            raise NoPlace(name)
        return self.names().index(name)

    def log(self):
        """The tuple of the deeds that led there."""
        return tuple(self._deeds[:self._at])

    def would_free(self, row):
        """The set of the names of the objects that the sweeps of row would free."""
        left = self._state_behind(frozen(row))[2]
        return tuple([name for name in self.names() if name not in left])

    def twin(self):
        """Another Board that holds the same, with all that can be taken back and done again."""
        other = Board(self.heap(), self.rule())
        other._states = list(self._states)
        other._deeds = list(self._deeds)
        other._at = self._at
        return other

    def _state_behind(self, row):
        """What is so behind the sweeps of row."""
        check_places([area for lot in row for area in lot], self.heap()[0])
        stand = stands_of(self.heap(), self.rule(), row)[-1]
        left = [name for name, area in zip(self.names(), stand) if area is not None]
        gone = [name for name, area in zip(self.names(), stand) if area is None]
        freed = tuple(sorted(list(self.freed()) + gone))
        return (heap_at(self.heap(), stand), self.rule(), tuple(left), freed)

    def _move_on(self, deed, state):
        """Puts what is so behind a deed behind what is so now; nothing can be done again any more."""
        self._deeds = self._deeds[:self._at] + [deed]
        self._states = self._states[:self._at + 1] + [state]
        self._at += 1


def name_of(deed):
    """The name of the deed of a Board: do for each DEED of a program."""
    return "do" if deed[0] == "new" or deed[0] in NAMED else deed[0]
