"""Which names are still read behind a row of a piece."""

from cellvouch.claims import claim_names
from cellvouch.loops import names_set_within
from cellvouch.machine import end_of_hold
from cellvouch.rows import names_set, terms_read


def names_read(row):
    """The names that a row reads; a loop is leapt over by its claims."""
    names = terms_read(row)
    return names + claim_names(row[4]) + claim_names(row[5]) if row[0] == "while" else names


def names_lost(row):
    """The names that a row gives other numbers."""
    return names_set_within(row) if row[0] == "while" else names_set(row)


def next_places(step):
    """Where the paths of a piece go on behind a row."""
    row, on, off = step
    if row[0] == "if":
        return [on, off]
    return [off] if row[0] == "while" else [on]


class Needs:
    """What is still read from each row of a piece on; the plan is that of its rows, behind is where they end."""

    def __init__(self, piece, plan, behind):
        self.plan = plan
        self.base = piece.first
        last = claim_names(piece.behind)
        if piece.asked:
            last = last + claim_names(piece.ahead)
        self.found = {behind: last}

    def step(self, here):
        """The row with this number, and where it leads."""
        return self.plan[here - self.base]

    def needed(self, here):
        """The names that are read from a row on, ahead of being set."""
        if here not in self.found:
            self.found[here] = self.looked_up(here)
        return self.found[here]

    def looked_up(self, here):
        """The same, from the rows behind it."""
        if here < 0:
            return self.needed(self.step(end_of_hold(here))[2])
        row = self.step(here)[0]
        names, lost = names_read(row), names_lost(row)
        for place in next_places(self.step(here)):
            names = names + [name for name in self.needed(place) if name not in lost and name not in names]
        return names
