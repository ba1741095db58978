"""The loops of a deed, and the pieces in which it is looked at (point 13 of the document)."""

from cellvouch.claims import row_names
from cellvouch.deeds import claims_of, ghosts_of, locals_of, with_ghosts
from cellvouch.rows import all_rows, in_slots, names_set


def loops_within(rows, first, around):
    """Triples (number, loop, loops around it) of the loops in these rows, which are numbered from first on."""
    out = []
    here = first
    for row in rows:
        inside = around
        if row[0] == "while":
            out.append((here, row, around))
            inside = around + (row,)
        here += 1
        for inner in in_slots(row, "rows"):
            out.extend(loops_within(inner, here, inside))
            here += len(all_rows(inner))
    return out


def loops_of(deed):
    """Triples (number, loop, loops around it) of all loops of a deed, in the order of its rows."""
    return loops_within(deed[5], 0, ())


def names_set_within(loop):
    """The locals that a row within a loop sets, rising."""
    names = []
    for row in all_rows(loop[6]):
        names.extend(names_set(row))
    return sorted(set(names))


def deed_rows(deed):
    """The names of a deed that stand for rows of numbers, rising."""
    names = []
    for claim in claims_of(deed):
        names.extend(row_names(claim))
    return sorted(set(names))


class Piece:
    """A piece of a deed: what it begins with, its claims, and what it does.

    known are the names that it begins with, own those that its claim ahead tells and its claim behind goes by;
    tells are the locals whose numbers come in behind it where it is leapt over; asked is whether the test of the
    loop is to hold, None for the deed itself; rows are numbered from first on.
    """

    def __init__(self, deed, number):
        self.deed = deed
        self.number = number
        self.loop = None
        self.asked = None
        self.known = list(deed[1])
        self.own = ghosts_of(deed)
        self.tells = list(deed[2])
        self.ahead, self.behind, self.rows = deed[3:6]
        self.first = 0
        if number > 0:
            self.begin_at(loops_of(deed)[(number - 1) // 2], number % 2 == 0)

    def begin_at(self, place, asked):
        """Be the piece of a loop."""
        here, loop, around = place
        known = self.known + self.own + locals_of(self.deed)
        for outer in around:
            known = with_ghosts(outer[4], known)
        self.loop, self.known, self.asked = loop, known, asked
        self.own = with_ghosts(loop[4], known)[len(known):]
        self.tells = names_set_within(loop)
        self.ahead, self.behind = loop[4:6]
        self.rows = loop[6] if asked else ()
        self.first = here + 1

    def locals_at_first(self):
        """The worths of the locals that are 0 at first."""
        return {name: 0 for name in locals_of(self.deed)} if self.loop is None else {}

    def names_at_end(self):
        """The names by which the claim behind is lawful."""
        return self.known + self.own + (self.tells if self.loop is None else [])
