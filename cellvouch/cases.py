"""Cases: what is known of numbers, rows and cells in many runs at once.

A number of a case is a whole number, or a text that stands for an unknown one; a row is a word over unknown
rows. Blocks are cells and stretches, as the parts of claims, but of numbers and rows of the case. Where two
blocks are in the heap at one time, their cells lie at unlike addresses.
"""

from cellvouch.words import is_whole, turned


class Case:
    """What is known by now."""

    def __init__(self):
        self.made = 0
        # Unknown numbers that are another number, and pairs of numbers that are apart.
        self.links = {}
        self.aparts = []
        # Unknown rows that are a word, and unknown rows that aren't empty.
        self.rows = {}
        self.full = {}
        # All blocks that there ever were, and for each one those that were there at one time with it.
        self.blocks = []
        self.beside = []
        # Blocks that surely have a cell, and stretches of which it isn't known.
        self.held = {}
        self.unsure = {}
        # The blocks in the heap by now, a cell with its worth and next; and what stretches were taken apart into.
        self.live = {}
        self.inner = {}

    def twin(self):
        """A case of which the same is known."""
        other = Case()
        other.made = self.made
        other.links = dict(self.links)
        other.aparts = list(self.aparts)
        other.rows = dict(self.rows)
        other.full = dict(self.full)
        other.blocks = list(self.blocks)
        other.beside = list(self.beside)
        other.held = dict(self.held)
        other.unsure = dict(self.unsure)
        other.live = dict(self.live)
        other.inner = dict(self.inner)
        return other

    def new_number(self):
        """A number of which nothing is known."""
        self.made += 1
        return f"n{self.made}"

    def new_row(self):
        """A row of which nothing is known."""
        self.made += 1
        return f"r{self.made}"

    def root(self, number):
        """The number that stands for all those that are known to be this one."""
        while number in self.links:
            number = self.links[number]
        return number

    def are_one(self, one, other):
        """Whether two numbers are known to be one."""
        return self.root(one) == self.root(other)

    def unite(self, one, other):
        """Note that two numbers are one; False where they are known to be two whole numbers."""
        one, other = self.root(one), self.root(other)
        if one == other:
            return True
        if not is_whole(one):
            self.links[one] = other
        elif not is_whole(other):
            self.links[other] = one
        return not (is_whole(one) and is_whole(other))

    def part(self, one, other):
        """Note that two numbers are apart."""
        self.aparts.append((one, other))

    def word(self, word):
        """A word, with what is known of its rows."""
        out = []
        for piece in word:
            kind, term = piece
            if kind == "one" or term not in self.rows:
                out.append(piece)
            else:
                inner = self.word(self.rows[term])
                out.extend(inner if kind == "row" else turned(inner))
        return tuple(out)

    def word_at(self, block):
        """The word of a stretch, with what is known of its rows."""
        return self.word(self.blocks[block][3])

    def is_filled(self, word):
        """Whether a word surely isn't empty."""
        return bool([True for kind, term in word if kind == "one" or term in self.full])

    def add_block(self, block, others):
        """Note a block that is there at one time with the others; its number is told."""
        here = len(self.blocks)
        self.blocks.append(block)
        self.beside.append(tuple(others))
        for other in others:
            self.beside[other] = self.beside[other] + (here,)
        if block[0] == "row":
            self.unsure[here] = True
        else:
            self.held[here] = True
        return here

    def bring(self, block):
        """Bring a block into the heap; its number is told."""
        here = self.add_block(block, list(self.live))
        self.live[here] = block[2:] if block[0] == "cell" else ()
        return here

    def take_out(self, blocks):
        """Take blocks out of the heap."""
        for block in blocks:
            del self.live[block]


def lookout(case, number, blocks):
    """Note that no cell of these blocks lies at this number: they are looked at as if one lay there, too."""
    case.add_block(("look", number), list(blocks))


def rows_in_word(word):
    """The unknown rows of a word, each once."""
    return sorted(set([term for kind, term in word if kind != "one"]))
