"""Hands that do works at the same time, step by step (points 25 to 27 of the document)."""

from cellvouch.deeds import by_name, is_there, rows_of
from cellvouch.heaps import cells_of, heap_of
from cellvouch.machine import MOST_CALLED, Frame, Room, do_plain, end_of_hold, is_met, planned
from cellvouch.rows import calls_in
from cellvouch.words import number_of

# Where the address stands in each row that touches one.
ADDRESS_AT = {"free": 1, "get": 2, "put": 1}


class Hand:
    """A hand: the frames that it does stand one within the other, the inmost last.

    trail is its path from the first hand, above the hand whose both it does; sides are the two hands that do
    the both to which it has come. opened is for those who follow a weaving.
    """

    def __init__(self, trail, above, frame):
        self.trail = trail
        self.above = above
        self.frames = [frame]
        self.around = 0 if above is None else above.deep() + 1
        self.sides = ()
        self.numbers = None
        self.touched = None
        self.is_get = False
        self.wants = None
        self.opened = []

    def deep(self):
        """How many calls and boths are around the row to which it has come."""
        return self.around + len(self.frames) - 1

    def next_row(self):
        """The row to which it has come."""
        frame = self.frames[-1]
        return frame.plan[frame.at][0]

    def place(self):
        """The work and the number of the row to which it has come."""
        return self.frames[-1].place()

    def stack(self):
        """The places from the work that is run down to the one to which it has come."""
        above = () if self.above is None else self.above.stack()
        return above + tuple([frame.place() for frame in self.frames])

    def arrive(self):
        """Note what the row to which it has come touches, and the lock for which it may have to wait."""
        row = self.next_row()
        self.is_get = row[0] == "get"
        self.wants = row[1] if row[0] == "hold" else None
        self.touched = None
        if row[0] in ADDRESS_AT:
            self.touched = number_of(row[ADDRESS_AT[row[0]]], self.frames[-1].worths)


def racing(hands):
    """The first two hands, in their order, that have come to a race; or None."""
    touching = {}
    for hand in hands:
        if hand.touched is not None:
            touching.setdefault(hand.touched, []).append(hand)
    for together in list(touching.values()):
        others = [hand for hand in together[1:] if not (together[0].is_get and hand.is_get)]
        if others:
            return (together[0], others[0])
    return None


class Weaving:
    """Works that are done on a heap by hands, one step behind the other.

    standing are the hands that stand at a row, in their order; met is what ended the weaving in a step, or its end.
    """

    def __init__(self, works, locks, heap, places):
        self.works = by_name(works)
        self.locks = dict(locks)
        self.plans = {work[0]: planned(work[5], 0, rows_of(work)) for work in works}
        self.cells = cells_of(heap)
        self.room = Room(places)
        self.held = {}
        self.first = None
        self.standing = []
        self.met = None
        self.log = []

    def frame_of(self, name, numbers):
        """The beginning of a work."""
        return Frame(self.works[name], self.plans[name], numbers)

    def begin(self, name, numbers):
        """Begin a work, with what follows by itself."""
        self.start(name, numbers)
        self.follow(self.first)

    def start(self, name, numbers):
        """Begin with one hand, which does this work."""
        self.first = Hand((), None, self.frame_of(name, numbers))
        self.standing = [self.first]

    def ready(self):
        """The hands that can go on."""
        return [hand for hand in self.standing if hand.wants not in self.held]

    def concerned(self):
        """The hands that are in a race, or that all stand still; or none."""
        pair = racing(self.standing)
        if pair is not None:
            return pair
        return () if self.ready() else tuple(self.standing)

    def outcome(self):
        """What ends the weaving ahead of a further step, or None."""
        if self.met is not None:
            return self.met
        pair = racing(self.standing)
        if pair is not None:
            return self.race(pair)
        if not self.ready():
            return ("still", tuple([hand.place() for hand in self.standing]))
        return None

    def race(self, pair):
        """What is told of two hands that have come to a race."""
        return ("race", pair[0].place(), pair[1].place(), pair[0].touched)

    def go(self, number):
        """One step, of the hand that a number chooses; told is where it stood."""
        ready = self.ready()
        hand = ready[number % len(ready)]
        stood = (hand.trail,) + hand.place()
        told = self.obstacle(hand)
        if told is None:
            told = self.done(hand)
        if told is None:
            self.log.append(stood)
        else:
            self.met = told
        return stood

    def obstacle(self, hand):
        """What a hand meets at its row, so that it isn't done; or None."""
        row = hand.next_row()
        calls = calls_in(row)
        for call in calls:
            if not is_there(self.works, call):
                return ("absent", call[1])
        if row[0] == "hold" and row[1] not in self.locks:
            return ("unlocked", row[1])
        if calls and hand.deep() >= MOST_CALLED:
            return ("deep",)
        return self.fault(hand)

    def fault(self, hand):
        """What is told where a hand touches a cell that isn't there, else None."""
        if hand.touched is None or hand.touched in self.cells:
            return None
        return ("fault",) + hand.place()

    def done(self, hand):
        """Do a step of a hand; what is told where that can't be."""
        self.step(hand)
        return None

    def step(self, hand):
        """Do the row at which a hand stands, and what follows by itself."""
        row = hand.next_row()
        if row[0] == "both":
            self.both(hand, row)
            left, right = hand.sides
            self.follow(left)
            self.follow(right)
            return
        if row[0] == "call":
            self.call(hand, row)
        elif row[0] == "hold":
            self.hold(hand, row)
        elif row[0] in ("if", "while"):
            self.test(hand, row)
        else:
            self.plain(hand, row)
        self.follow(hand)

    def plain(self, hand, row):
        """Do a row that is neither a test nor a leap, and never faults here."""
        frame = hand.frames[-1]
        do_plain(row, frame.worths, self.cells, self.room)
        frame.goes_on()

    def test(self, hand, row):
        """Come to the test of an if or a loop."""
        frame = hand.frames[-1]
        _, on, off = frame.plan[frame.at]
        frame.at = on if is_met(row, frame.worths) else off

    def called(self, call, worths):
        """The frame of a work that is called, its takes read by these worths."""
        return self.frame_of(call[1], [number_of(term, worths) for term in call[2]])

    def call(self, hand, row):
        """Begin a work that is called."""
        hand.frames.append(self.called(row[1:], hand.frames[-1].worths))

    def both(self, hand, row):
        """Put two hands in the place of one."""
        worths = hand.frames[-1].worths
        frames = [self.called(call, worths) for call in calls_in(row)]
        hand.sides = tuple([Hand(hand.trail + (k,), hand, frame) for k, frame in enumerate(frames)])
        at = self.standing.index(hand)
        self.standing[at:at + 1] = list(hand.sides)

    def hold(self, hand, row):
        """Take a lock."""
        self.held[row[1]] = True
        hand.frames[-1].goes_on()

    def follow(self, hand):
        """What follows by itself, until hands have come to rows."""
        while hand is not None:
            frame = hand.frames[-1]
            if frame.at < 0:
                self.give_back(hand)
            elif not frame.has_ended():
                hand.arrive()
                return
            elif len(hand.frames) > 1:
                self.come_back(hand)
            else:
                hand = self.end(hand)

    def give_back(self, hand):
        """Give back the lock of a hold that has come to its end."""
        frame = hand.frames[-1]
        row, _, off = frame.plan[end_of_hold(frame.at)]
        del self.held[row[1]]
        frame.at = off

    def come_back(self, hand):
        """End a called work."""
        numbers = hand.frames.pop().told()
        frame = hand.frames[-1]
        frame.sets(hand.next_row()[1], numbers)
        frame.goes_on()

    def end(self, hand):
        """End the work of a hand; told is the hand that goes on, where its both ends with it."""
        hand.numbers = hand.frames[-1].told()
        above = hand.above
        if above is None:
            self.standing = []
            self.met = ("ends", hand.numbers, heap_of(self.cells))
            return None
        at = self.standing.index(hand)
        if [side for side in above.sides if side.numbers is None]:
            del self.standing[at]
            return None
        self.standing[at] = above
        self.rejoin(above)
        return above

    def rejoin(self, hand):
        """Go on with a hand whose both has ended."""
        frame = hand.frames[-1]
        for call, side in zip(calls_in(hand.next_row()), hand.sides):
            frame.sets(call[0], side.numbers)
        frame.goes_on()
        hand.sides = ()
