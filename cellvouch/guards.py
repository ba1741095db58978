"""Guarded weavings: blame, and who owns which cell (points 28 to 30 of the document)."""

from cellvouch.hands import Weaving
from cellvouch.heaps import heap_of, walked
from cellvouch.loops import Piece, loops_of
from cellvouch.loose import is_wholly
from cellvouch.machine import end_of_hold, is_met
from cellvouch.opened import Blamed, Opened, addresses_of
from cellvouch.refusals import NoStart
from cellvouch.rows import calls_in
from cellvouch.weavings import go_through, next_number, stopped
from cellvouch.words import number_of


class Guarded(Weaving):
    """A weaving that is followed by the loose runs of all pieces through which it goes.

    Each hand has its open pieces, the one at work last; parts are the addresses in the care of each free lock.
    """

    def __init__(self, works, locks, heap, places):
        super().__init__(works, locks, heap, places)
        self.parts = {}
        self.pieces = {}
        # For each loop, by its work and row, the number of the piece that does its rows.
        self.rounds = {}
        for work in works:
            for k, place in enumerate(loops_of(work)):
                self.rounds[(work[0], place[0])] = 2 * k + 2

    def piece_of(self, work, number):
        """A piece of a work, which is made once."""
        if (work[0], number) not in self.pieces:
            self.pieces[(work[0], number)] = Piece(work, number)
        return self.pieces[(work[0], number)]

    def heap_at(self, addresses):
        """The heap of the cells at these addresses."""
        return heap_of({address: self.cells[address] for address in addresses})

    def start(self, name, numbers):
        """Begin with one hand, and a part for the work and for each lock; refused with NoStart."""
        work = self.works[name]
        rest = {address: True for address in self.cells}
        begun = {take: number for take, number in zip(work[1], numbers)}
        told = self.taken_from(rest, work[3], begun)
        for lock in self.locks:
            self.parts[lock] = addresses_of(self.taken_from(rest, self.locks[lock], {})[0])
        super().start(name, numbers)
        self.open_first(self.first, begun, told)

    def taken_from(self, rest, claim, worths):
        """Take a part that is a claim away from the rest of the heap; refused with NoStart."""
        told = walked(claim, self.heap_at(rest), worths)
        if told is None:
            raise NoStart()
        for cell in told[0]:
            del rest[cell[0]]
        return told

    def begin(self, name, numbers):
        """Begin a work, with what follows by itself; refused with NoStart."""
        try:
            super().begin(name, numbers)
        except Blamed as blamed:
            # A work without rows: its end is all that there is of it.
            self.standing = []
            self.met = blamed.found

    def done(self, hand):
        """Do a step of a hand; told is the blame where a loose run fails in it."""
        try:
            self.step(hand)
        except Blamed as blamed:
            return blamed.found
        return None

    def race(self, pair):
        """The blame for two hands that have come to a race: the cell isn't among those of both."""
        told = self.fault(pair[0])
        return self.fault(pair[1]) if told is None else told

    def fault(self, hand):
        """The blame where a hand touches a cell that isn't among those of its piece at work, else None."""
        top = hand.opened[-1]
        return None if hand.touched is None or hand.touched in top.own else top.blame()

    def plain(self, hand, row):
        """Do a row that is neither a test nor a leap."""
        top = hand.opened[-1]
        super().plain(hand, row)
        if row[0] == "new":
            address = top.frame.worths[row[1]]
            top.own[address] = True
            top.draws.append(address)
        elif row[0] == "free":
            del top.own[hand.touched]

    def leave(self, top, claim, worths):
        """Let the part that is a claim leave the piece at work, which is blamed where there is none."""
        told = walked(claim, self.heap_at(top.own), worths)
        if told is None:
            raise Blamed(top.blame())
        top.go_out(told[0])
        return told

    def leave_for(self, hand, call):
        """Let leave what a called work claims ahead; told are its takes, and what its claim tells."""
        _, name, terms = call
        worths = hand.frames[-1].worths
        begun = {take: number_of(term, worths) for take, term in zip(self.works[name][1], terms)}
        return begun, self.leave(hand.opened[-1], self.works[name][3], begun)

    def open_first(self, hand, begun, told):
        """Open piece 0 of the work that a hand has begun."""
        frame = hand.frames[-1]
        hand.opened.append(Opened(self.piece_of(frame.deed, 0), frame, begun, told))

    def what_is_left(self, opened):
        """The heap and the numbers with which a piece ends; it is blamed where that isn't its claim behind."""
        heap = self.heap_at(opened.own)
        worths = opened.worths_of(opened.piece.names_at_end())
        if is_wholly(opened.piece.behind, heap, worths) is None:
            raise Blamed(opened.blame())
        return heap, opened.told_numbers()

    def close(self, hand):
        """Close the piece at work; its cells come in below."""
        heap, numbers = self.what_is_left(hand.opened[-1])
        hand.opened.pop()
        hand.opened[-1].come_in(heap, numbers)

    def test(self, hand, row):
        """Come to the test of an if or a loop."""
        if row[0] == "while":
            self.open_loop(hand, row)
        super().test(hand, row)

    def open_loop(self, hand, row):
        """Open the next piece of a loop; the last one is closed at once, and those that led to it."""
        frame, top = hand.frames[-1], hand.opened[-1]
        goes_round, holds = self.rounds[frame.place()], is_met(row, frame.worths)
        piece = self.piece_of(frame.deed, goes_round if holds else goes_round - 1)
        begun = top.worths_of(piece.known)
        hand.opened.append(Opened(piece, frame, begun, self.leave(top, row[4], begun)))
        if not holds:
            self.close(hand)
            while hand.opened[-1].piece.number == goes_round:
                self.close(hand)

    def call(self, hand, row):
        """Begin a work that is called."""
        begun, told = self.leave_for(hand, row[1:])
        super().call(hand, row)
        self.open_first(hand, begun, told)

    def come_back(self, hand):
        """End a called work."""
        self.close(hand)
        super().come_back(hand)

    def both(self, hand, row):
        """Put two hands in the place of one."""
        gone = [self.leave_for(hand, call) for call in calls_in(row)]
        super().both(hand, row)
        for side, (begun, told) in zip(hand.sides, gone):
            self.open_first(side, begun, told)

    def end(self, hand):
        """End the work of a hand; told is the hand that goes on, where its both ends with it."""
        self.what_is_left(hand.opened[-1])
        return super().end(hand)

    def rejoin(self, hand):
        """Go on with a hand whose both has ended."""
        for side in hand.sides:
            heap, numbers = self.what_is_left(side.opened[-1])
            hand.opened[-1].come_in(heap, numbers)
        super().rejoin(hand)

    def hold(self, hand, row):
        """Take a lock."""
        part = self.parts.pop(row[1])
        hand.opened[-1].come_in(self.heap_at(part), ())
        super().hold(hand, row)

    def give_back(self, hand):
        """Give back the lock of a hold that has come to its end."""
        frame = hand.frames[-1]
        lock = frame.plan[end_of_hold(frame.at)][0][1]
        self.parts[lock] = addresses_of(self.leave(hand.opened[-1], self.locks[lock], {})[0])
        super().give_back(hand)

    def all_owners(self):
        """A dict from all addresses to those who own the cells."""
        owned = {address: ("nobody",) for address in sorted(self.cells)}
        for lock in self.parts:
            owned.update({address: ("lock", lock) for address in self.parts[lock]})
        going = [self.first]
        while going:
            hand = going.pop()
            for opened in hand.opened:
                owned.update({address: ("hand", hand.trail) for address in opened.own})
            going.extend(list(hand.sides))
        return owned


def begun_guarded(works, locks, name, numbers, heap, places):
    """A guarded weaving that has begun; refused with NoStart."""
    weaving = Guarded(works, locks, heap, places)
    weaving.begin(name, numbers)
    return weaving


def guarded(works, locks, name, numbers, heap, *, schedule=(), places=(), steps=1000):
    """The outcome of a guarded weaving; refused with NoStart."""
    return go_through(begun_guarded(works, locks, name, numbers, heap, places), schedule, steps)


def owners(works, locks, name, numbers, heap, *, schedule=(), places=(), steps=1000):
    """The owners of all cells at first, and behind each step that was done; refused with NoStart."""
    weaving = begun_guarded(works, locks, name, numbers, heap, places)
    told = [weaving.all_owners()]
    while stopped(weaving, steps) is None:
        weaving.go(next_number(weaving, schedule))
        if len(weaving.log) == len(told):
            told.append(weaving.all_owners())
    return tuple(told)
