"""Pieces that are open in a guarded weaving, and their loose runs so far (points 28 and 29 of the document)."""


class Blamed(Exception):
    """A loose run fails; found is what a weaving tells of it."""

    def __init__(self, found):
        super().__init__("a loose run fails")
        self.found = found


def addresses_of(heap):
    """A dict that has the addresses of a heap as its keys."""
    return {cell[0]: True for cell in heap}


class Opened:
    """A piece that is open: its own cells, and its loose run so far.

    begun are the worths with which it began; told is the heap with which it began, and the worths of all names
    as its claim ahead told them.
    """

    def __init__(self, piece, frame, begun, told):
        self.piece = piece
        self.frame = frame
        self.begun = begun
        self.heap, self.known = told
        self.own = addresses_of(self.heap)
        self.draws = []

    def worths_of(self, names):
        """The worths of these names by now."""
        now = dict(self.known)
        now.update(self.frame.worths)
        return {name: now[name] for name in names}

    def told_numbers(self):
        """The numbers that come in behind it."""
        return tuple([self.frame.worths[name] for name in self.piece.tells])

    def blame(self):
        """What is told of it where its loose run fails now."""
        return ("blame", self.piece.deed[0], (self.piece.number, dict(self.begun), self.heap, list(self.draws)))

    def come_in(self, heap, numbers):
        """Let a heap come in, with numbers: one draw."""
        self.own.update(addresses_of(heap))
        self.draws.append((heap, numbers))

    def go_out(self, heap):
        """Let the cells of a heap go out."""
        for cell in heap:
            del self.own[cell[0]]
