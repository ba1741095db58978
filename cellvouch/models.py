"""Models: numbers, rows and heaps of which all is true that is known in a case."""

from cellvouch.heaps import heap_of
from cellvouch.settling import completed
from cellvouch.words import is_whole


def numbers_in(thing):
    """All whole numbers within tuples, as the keys of a dict."""
    found = {}
    going = [thing]
    while going:
        part = going.pop()
        if isinstance(part, tuple):
            going.extend(list(part))
        elif is_whole(part):
            found[part] = True
    return found


class Model:
    """What the unknown numbers and rows of a case may be: each a number, or two numbers, of their own."""

    def __init__(self, case, taken):
        self.case = completed(case)
        self.taken = taken
        self.last = 0
        self.numbers = {}
        self.rows = {}

    def fresh(self):
        """A number that hasn't been used yet."""
        self.last += 1
        while self.last in self.taken:
            self.last += 1
        return self.last

    def as_number(self, number):
        """What a number is."""
        root = self.case.root(number)
        if is_whole(root):
            return root
        if root not in self.numbers:
            self.numbers[root] = self.fresh()
        return self.numbers[root]

    def as_piece(self, kind, term):
        """What a piece of a word stands for; two numbers tell a row from the same one turned about."""
        if kind == "one":
            return (self.as_number(term),)
        if term not in self.rows:
            self.rows[term] = (self.fresh(), self.fresh())
        return self.rows[term] if kind == "row" else self.rows[term][::-1]

    def as_row(self, word):
        """The row of numbers for which a word stands."""
        out = []
        for kind, term in self.case.word(word):
            out.extend(self.as_piece(kind, term))
        return tuple(out)

    def as_worth(self, thing):
        """What a number or a word stands for."""
        return self.as_row(thing) if isinstance(thing, tuple) else self.as_number(thing)

    def as_worths(self, names):
        """A dict of what the names stand for."""
        return {name: self.as_worth(names[name]) for name in sorted(names)}

    def lay(self, block, cells):
        """Put the cells of a block, as it was when it came in, to these."""
        if block in self.case.inner:
            for inner in self.case.inner[block]:
                self.lay(inner, cells)
            return
        kind, x, third, fourth = self.case.blocks[block]
        if kind == "cell":
            cells[self.as_number(x)] = (self.as_number(third), self.as_number(fourth))
            return
        row, at = self.as_row(fourth), self.as_number(x)
        for k, number in enumerate(row):
            after = self.as_number(third) if k + 1 == len(row) else self.fresh()
            cells[at] = (number, after)
            at = after

    def as_heap(self, blocks):
        """The heap that these blocks were when they came in."""
        cells = {}
        for block in blocks:
            self.lay(block, cells)
        return heap_of(cells)
