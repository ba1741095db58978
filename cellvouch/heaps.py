"""Heaps, and the walk that finds a claim in one (point 7 of the document)."""

from cellvouch.claims import in_order, is_known
from cellvouch.words import is_whole, number_of, row_of


def is_cell(thing):
    """Whether thing is a cell of a heap."""
    if not isinstance(thing, tuple) or len(thing) != 3:
        return False
    return all([is_whole(number) for number in thing]) and thing[0] >= 1


def is_heap(thing):
    """Whether thing, which may be anything, is a heap."""
    if not isinstance(thing, tuple) or not all([is_cell(cell) for cell in thing]):
        return False
    return all([low[0] < high[0] for low, high in zip(thing, thing[1:])])


def cells_of(heap):
    """A dict from the addresses of a heap to pairs of worth and next."""
    return {address: (worth, after) for address, worth, after in heap}


def heap_of(cells):
    """The heap of such a dict."""
    return tuple([(address,) + cells[address] for address in sorted(cells)])


class Walk:
    """A walk over a heap: the cells that are left, those taken, and what is told by now."""

    def __init__(self, heap, worths):
        self.left = cells_of(heap)
        self.taken = {}
        self.worths = dict(worths)

    def agrees(self, term, number):
        """Whether a term is this number; a name that isn't known becomes it."""
        if not is_known(term, self.worths):
            self.worths[term] = number
        return number_of(term, self.worths) == number

    def finds(self, address):
        """Whether a cell that is still left is there; it is taken."""
        if address not in self.left:
            return False
        self.taken[address] = self.left.pop(address)
        return True

    def has_cell(self, part):
        """Whether a cell is there as the part says."""
        address = number_of(part[1], self.worths)
        if not self.finds(address):
            return False
        worth, after = self.taken[address]
        return self.agrees(part[2], worth) and self.agrees(part[3], after)

    def has_stretch(self, part):
        """Whether a stretch is there as the part says."""
        address, end = number_of(part[1], self.worths), number_of(part[2], self.worths)
        row = []
        # A ring comes to an end, too: a cell that was taken isn't left.
        while address != end:
            if not self.finds(address):
                return False
            worth, address = self.taken[address]
            row.append(worth)
        return self.reads(part[3], tuple(row))

    def reads(self, word, row):
        """Whether a word stands for this row; the only name that isn't known becomes it."""
        if len(word) == 1 and not is_known(word[0][1], self.worths):
            kind, name = word[0]
            self.worths[name] = row if kind == "row" else row[::-1]
        return row_of(word, self.worths) == row

    def is_same(self, fact):
        """Whether the two sides are one number; a known one tells the other."""
        known, other = fact[1], fact[2]
        if not is_known(known, self.worths):
            known, other = other, known
        return self.agrees(other, number_of(known, self.worths))

    def holds(self, item):
        """Whether a part or a fact, which can be taken, is so."""
        if item[0] == "cell":
            return self.has_cell(item)
        if item[0] == "row":
            return self.has_stretch(item)
        if item[0] == "same":
            return self.is_same(item)
        return number_of(item[1], self.worths) != number_of(item[2], self.worths)


def walked(claim, heap, worths):
    """The part of a heap that is the claim, and the worths of all names, or None."""
    walk = Walk(heap, worths)
    for item in in_order(claim, list(worths)):
        if not walk.holds(item):
            return None
    return heap_of(walk.taken), walk.worths
