"""The machine on which deeds are done (point 12 of the document)."""

from heapq import heappop, heappush

from cellvouch.deeds import by_name, is_there, locals_of, rows_of
from cellvouch.heaps import cells_of, heap_of
from cellvouch.rows import FIELDS, all_rows
from cellvouch.words import number_of

MOST_CALLED = 59


def end_of_hold(here):
    """The number, below 0, for the end of a hold that is the row with this number; and back."""
    return -1 - here


def planned(rows, first, after):
    """Triples (row, on, off): where it goes on, where the test doesn't hold or the hold has ended; from first on."""
    out = []
    for k, row in enumerate(rows):
        here = first + len(out)
        behind = after if k + 1 == len(rows) else here + len(all_rows((row,)))
        if row[0] == "if":
            others = here + 1 + len(all_rows(row[4]))
            out.append((row, here + 1 if row[4] else behind, others if row[5] else behind))
            out.extend(planned(row[4], here + 1, behind) + planned(row[5], others, behind))
        elif row[0] == "while":
            out.append((row, here + 1 if row[6] else here, behind))
            out.extend(planned(row[6], here + 1, here))
        elif row[0] == "hold":
            out.append((row, here + 1 if row[2] else end_of_hold(here), behind))
            out.extend(planned(row[2], here + 1, end_of_hold(here)))
        else:
            out.append((row, behind, behind))
    return out


def is_met(row, worths):
    """Whether the test of an if or a loop holds."""
    alike = number_of(row[1], worths) == number_of(row[3], worths)
    return alike if row[2] == "is" else not alike


def set_one(row, worths, cells):
    """Do a set: it never faults."""
    worths[row[1]] = number_of(row[2], worths)
    return True


def free_cell(row, worths, cells):
    """Do a free; False where no cell is there."""
    return cells.pop(number_of(row[1], worths), None) is not None


def get_field(row, worths, cells):
    """Do a get; False where no cell is there."""
    address = number_of(row[2], worths)
    if address not in cells:
        return False
    worths[row[1]] = cells[address][FIELDS.index(row[3])]
    return True


def put_field(row, worths, cells):
    """Do a put; False where no cell is there."""
    address = number_of(row[1], worths)
    if address not in cells:
        return False
    fields = list(cells[address])
    fields[FIELDS.index(row[2])] = number_of(row[3], worths)
    cells[address] = tuple(fields)
    return True


PLAIN = {"set": set_one, "free": free_cell, "get": get_field, "put": put_field}


def make_cell(row, worths, cells, address):
    """Do a new, at an address where no cell is."""
    cells[address] = (number_of(row[2], worths), number_of(row[3], worths))
    worths[row[1]] = address


def do_plain(row, worths, cells, room):
    """Do a row that is neither a test nor a leap; False where it faults."""
    if row[0] == "new":
        make_cell(row, worths, cells, room.next_place(cells))
        return True
    action = PLAIN[row[0]]
    if not action(row, worths, cells):
        return False
    if row[0] == "free":
        room.give_back(number_of(row[1], worths))
    return True


class Frame:
    """A deed that is under way: its plan, the number of the row it has come to, its worths."""

    def __init__(self, deed, plan, numbers):
        self.deed = deed
        self.plan = plan
        self.at = 0
        self.worths = {name: 0 for name in locals_of(deed)}
        self.worths.update({name: number for name, number in zip(deed[1], numbers)})

    def has_ended(self):
        """Whether all is done."""
        return self.at == len(self.plan)

    def told(self):
        """The numbers that the deed tells."""
        return tuple([self.worths[name] for name in self.deed[2]])

    def place(self):
        """The deed, and the number of the row to which it has come."""
        return (self.deed[0], self.at)

    def sets(self, names, numbers):
        """Set locals to the numbers that a called deed told."""
        self.worths.update({name: number for name, number in zip(names, numbers)})

    def goes_on(self):
        """Go to the row behind the one that was done."""
        self.at = self.plan[self.at][1]


class Room:
    """Where new cells lie: the places told, then the least address where no cell is."""

    def __init__(self, places):
        self.places = places
        self.used = 0
        self.freed = []
        self.least = 1

    def give_back(self, address):
        """Take note that a cell at this address is gone."""
        if address < self.least:
            heappush(self.freed, address)

    def next_place(self, cells):
        """The address where the next new cell lies."""
        while self.used < len(self.places):
            self.used += 1
            if self.places[self.used - 1] not in cells:
                return self.places[self.used - 1]
        # Below least there are only cells, and the addresses given back.
        while self.freed:
            address = heappop(self.freed)
            if address not in cells:
                return address
        while self.least in cells:
            self.least += 1
        return self.least


class Machine:
    """Deeds that are done on a heap: the frames stand one within the other, the inmost last."""

    def __init__(self, deeds, heap, places, steps):
        self.deeds = by_name(deeds)
        self.plans = {deed[0]: planned(deed[5], 0, rows_of(deed)) for deed in deeds}
        self.cells = cells_of(heap)
        self.room = Room(places)
        self.steps = steps
        self.frames = []

    def begin(self, name, numbers):
        """Begin a deed within those that are under way."""
        self.frames.append(Frame(self.deeds[name], self.plans[name], numbers))

    def end(self):
        """End the inmost deed; what is told where none is around it."""
        numbers = self.frames.pop().told()
        if not self.frames:
            return ("ends", numbers, heap_of(self.cells))
        frame = self.frames[-1]
        frame.sets(frame.plan[frame.at][0][1], numbers)
        frame.goes_on()
        return None

    def call(self, row, frame):
        """Come to a call; what is told where it isn't done."""
        name = row[2]
        if not is_there(self.deeds, row[1:]):
            return ("absent", name)
        if len(self.frames) > MOST_CALLED:
            return ("deep",)
        self.begin(name, [number_of(term, frame.worths) for term in row[3]])
        return None

    def plain(self, row, frame):
        """Do a row that is neither a test nor a call; what is told where it faults."""
        if not do_plain(row, frame.worths, self.cells, self.room):
            return ("fault",) + frame.place()
        frame.goes_on()
        return None

    def step(self):
        """Do the next row, or end a deed; what is told where that ends the run."""
        frame = self.frames[-1]
        if frame.has_ended():
            return self.end()
        if self.steps == 0:
            return ("steps",)
        self.steps -= 1
        row, on, off = frame.plan[frame.at]
        if row[0] == "call":
            return self.call(row, frame)
        if row[0] in ("if", "while"):
            frame.at = on if is_met(row, frame.worths) else off
            return None
        return self.plain(row, frame)


def run(deeds, name, numbers, heap, *, places=(), steps=1000):
    """Do a deed on a heap; told is how that ends."""
    machine = Machine(deeds, heap, places, steps)
    machine.begin(name, numbers)
    told = None
    while told is None:
        told = machine.step()
    return told
