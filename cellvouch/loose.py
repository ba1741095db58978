"""Loose runs of the pieces of a deed, or of a work, played (points 13 to 16 and 31 of the document)."""

from cellvouch.deeds import by_name, is_there
from cellvouch.heaps import cells_of, heap_of, is_heap, walked
from cellvouch.loops import Piece, deed_rows, loops_of, names_set_within
from cellvouch.machine import PLAIN, is_met, make_cell
from cellvouch.rows import all_rows, calls_in
from cellvouch.words import is_whole, number_of

# What is told in here of a thing that is no loose run.
NO_RUN = ("none", None)


def pieces(deed):
    """How many pieces a deed has."""
    return 1 + 2 * len(loops_of(deed))


def are_numbers(thing):
    """Whether thing is a tuple of whole numbers."""
    return isinstance(thing, tuple) and all([is_whole(number) for number in thing])


def is_wholly(claim, heap, worths):
    """The worths of all names where a heap is wholly the claim by these worths, else None."""
    told = walked(claim, heap, worths)
    return None if told is None or told[0] != heap else told[1]


class Play:
    """A loose run that is played: its worths, its cells, and the draws that are left."""

    def __init__(self, deeds, locks, worths, heap, draws):
        self.deeds = deeds
        self.locks = locks
        self.worths = worths
        self.cells = cells_of(heap)
        self.draws = list(draws)

    def draw(self):
        """The next draw; None where none is left."""
        return self.draws.pop(0) if self.draws else None

    def do_rows(self, rows, first):
        """Do rows, numbered from first on; what is told where it ends there."""
        here = first
        for row in rows:
            told = self.do_row(row, here)
            if told is not None:
                return told
            here += len(all_rows((row,)))
        return None

    def do_row(self, row, here):
        """Do a row; what is told where it ends there."""
        if row[0] == "if":
            if is_met(row, self.worths):
                return self.do_rows(row[4], here + 1)
            return self.do_rows(row[5], here + 1 + len(all_rows(row[4])))
        if row[0] == "while":
            return self.leap_loop(row, here, list(self.worths))
        if row[0] == "hold":
            return self.leap_hold(row, here)
        if row[0] in ("call", "both"):
            return self.leap_calls(calls_in(row), here)
        if row[0] == "new":
            return self.make(row)
        action = PLAIN[row[0]]
        return None if action(row, self.worths, self.cells) else ("fault", here)

    def make(self, row):
        """Do a new, at the address that is drawn."""
        address = self.draw()
        if not is_whole(address) or address < 1 or address in self.cells:
            return NO_RUN
        make_cell(row, self.worths, self.cells, address)
        return None

    def leap_loop(self, row, here, names):
        """Leap over a loop whose claim ahead goes by these names."""
        told = self.go_out(row[4], {name: self.worths[name] for name in names})
        if told is None:
            return ("lacks", here)
        return self.come_in(row[5], told, names_set_within(row), names_set_within(row))

    def leap_hold(self, row, here):
        """Leap over the beginning of a hold, do its rows, leap over its end."""
        _, lock, rows = row
        if lock not in self.locks:
            return NO_RUN
        told = self.come_in(self.locks[lock], {}, (), ())
        if told is None:
            told = self.do_rows(rows, here + 1)
        if told is None and self.go_out(self.locks[lock], {}) is None:
            return ("lacks", here)
        return told

    def leap_calls(self, calls, here):
        """Leap over what a call, or a both, calls: all that goes out goes ahead of all that comes in."""
        if [call for call in calls if not is_there(self.deeds, call)]:
            return NO_RUN
        known = []
        for _, name, terms in calls:
            takes, ahead = self.deeds[name][1], self.deeds[name][3]
            told = self.go_out(ahead, {take: number_of(term, self.worths) for take, term in zip(takes, terms)})
            if told is None:
                return ("lacks", here)
            known.append(told)
        for (outs, name, _), worths in zip(calls, known):
            told = self.come_in(self.deeds[name][4], worths, self.deeds[name][2], outs)
            if told is not None:
                return told
        return None

    def go_out(self, ahead, worths):
        """Take out the part that is a claim ahead; told are the worths of its names, or None where there is none."""
        told = walked(ahead, heap_of(self.cells), worths)
        if told is None:
            return None
        for cell in told[0]:
            del self.cells[cell[0]]
        return told[1]

    def come_in(self, behind, worths, names, outs):
        """Draw numbers, for names of the claim behind and for outs of ours, and a heap that comes in."""
        draw = self.draw()
        if not isinstance(draw, tuple) or len(draw) != 2:
            return NO_RUN
        heap, numbers = draw
        if not is_heap(heap) or not are_numbers(numbers) or len(numbers) != len(names):
            return NO_RUN
        worths.update({name: number for name, number in zip(names, numbers)})
        if [cell for cell in heap if cell[0] in self.cells] or is_wholly(behind, heap, worths) is None:
            return NO_RUN
        self.worths.update({out: number for out, number in zip(outs, numbers)})
        self.cells.update(cells_of(heap))
        return None


def are_worths(thing, piece):
    """Whether thing is a dict of worths for just the names with which a piece begins."""
    if not isinstance(thing, dict) or len(thing) != len(piece.known):
        return False
    rows = deed_rows(piece.deed)
    for name in piece.known:
        if name not in thing:
            return False
        if not (are_numbers(thing[name]) if name in rows else is_whole(thing[name])):
            return False
    return True


def begun(deeds, locks, piece, worths, heap, draws):
    """The play of a piece that begins with these; None where it can't begin so."""
    if not are_worths(worths, piece) or not is_heap(heap) or not isinstance(draws, list):
        return None
    told = is_wholly(piece.ahead, heap, worths)
    if told is None:
        return None
    if piece.loop is not None and is_met(piece.loop, told) != piece.asked:
        return None
    told.update(piece.locals_at_first())
    return Play(deeds, locks, told, heap, draws)


def to_end(play, piece):
    """Do what a piece does, up to its end; told is how it fails, or None."""
    told = play.do_rows(piece.rows, piece.first)
    if told is None and piece.asked:
        told = play.leap_loop(piece.loop, piece.first - 1, piece.known)
    if told is not None:
        return told
    worths = {name: play.worths[name] for name in piece.names_at_end()}
    return ("end", None) if is_wholly(piece.behind, heap_of(play.cells), worths) is None else None


def play_told(deeds, locks, name, told):
    """How a told loose run fails; NO_RUN where it is none, None where it doesn't fail."""
    number, worths, heap, draws = told
    deed = deeds[name]
    if not is_whole(number) or not 0 <= number < pieces(deed):
        return NO_RUN
    piece = Piece(deed, number)
    play = begun(deeds, locks, piece, worths, heap, draws)
    if play is None:
        return NO_RUN
    ends = to_end(play, piece)
    return NO_RUN if play.draws else ends


def own_copy(told):
    """A verdict, or an outcome, whose dict and list are the asker's own."""
    if told is None or told[0] not in ("loose", "blame"):
        return told
    number, worths, heap, draws = told[-1]
    return told[:-1] + ((number, dict(worths), heap, list(draws)),)


def played(deeds, name, told):
    """How a told loose run fails; None where it is none, or doesn't fail."""
    ends = play_told(by_name(deeds), {}, name, told)
    return None if ends == NO_RUN else ends
