"""A second reading of points 13 to 16 and 31: loose runs done by chance, row by row, and told as they went."""

import random

from cellvouch.claims import claim_names, in_order, row_names
from cellvouch.deeds import claims_of, ghosts_of, locals_of
from cellvouch.heaps import walked
from cellvouch.rows import all_rows
from cellvouch.words import row_of

FIELD = ["worth", "next"]


class Dead(Exception):
    """No loose run goes on here."""


class Fail(Exception):
    """The loose run fails: how, and at which row."""


def number(term, worths):
    return term if isinstance(term, int) else worths[term]


def heap_from(cells):
    return tuple([(address,) + cells[address] for address in sorted(cells)])


class Chance:
    """Numbers, rows and heaps by chance, few of them so that they often meet."""

    def __init__(self, seed, numbers=(0, 1, 2, 3, 4, 5, 6), longest=2):
        self.any = random.Random(seed)
        self.numbers = list(numbers)
        self.longest = longest

    def number(self):
        return self.any.choice(self.numbers)

    def row(self):
        return tuple([self.number() for _ in range(self.any.randint(0, self.longest))])

    def address(self, taken):
        free = [some for some in self.numbers + list(range(11, 90)) if some > 0 and some not in taken]
        return self.any.choice(free[:len(self.numbers)])

    def know(self, terms, worths):
        for term in terms:
            if not isinstance(term, int) and term not in worths:
                worths[term] = self.number()

    def lay_cell(self, cells, taken, address, worth, after):
        if address < 1 or address in cells or address in taken:
            raise Dead()
        cells[address] = (worth, after)

    def lay_stretch(self, part, worths, cells, taken):
        _, x, y, word = part
        self.know([x, y] + [term for kind, term in word if kind == "one"], worths)
        x, y = number(x, worths), number(y, worths)
        for kind, name in word:
            if kind != "one" and name not in worths:
                worths[name] = () if x == y else (self.row() or (self.number(),))
        row = row_of(word, worths)
        if (x == y) != (row == ()):
            raise Dead()
        for k, worth in enumerate(row):
            after = y if k + 1 == len(row) else self.address([x, y] + list(cells) + list(taken))
            self.lay_cell(cells, taken, x, worth, after)
            x = after

    def lay_fact(self, fact, worths):
        kind, one, other = fact
        if kind == "same" and not isinstance(one, int) and one not in worths:
            one, other = other, one
        self.know([one], worths)
        if kind == "same" and not isinstance(other, int) and other not in worths:
            worths[other] = number(one, worths)
        self.know([other], worths)
        if (number(one, worths) == number(other, worths)) != (kind == "same"):
            raise Dead()

    def lay(self, claim, worths, taken=()):
        """A heap, as a dict, that is the claim by these worths; all its names are known then."""
        cells = {}
        for item in in_order(claim, list(worths)):
            if item[0] == "cell":
                self.know(item[1:], worths)
                self.lay_cell(cells, taken, *[number(term, worths) for term in item[1:]])
            elif item[0] == "row":
                self.lay_stretch(item, worths, cells, taken)
            else:
                self.lay_fact(item, worths)
        return cells


def loops_from(rows, first=0, around=()):
    """Triples (number, loop, loops around it), in the order of the rows."""
    out = []
    for row in rows:
        if row[0] == "while":
            out.append((first, row, around))
            out.extend(loops_from(row[6], first + 1, around + (row,)))
        elif row[0] == "if":
            out.extend(loops_from(row[4], first + 1, around))
            out.extend(loops_from(row[5], first + 1 + len(all_rows(row[4])), around))
        elif row[0] == "hold":
            out.extend(loops_from(row[2], first + 1, around))
        first += len(all_rows((row,)))
    return out


def sets_within(rows):
    names = []
    for row in all_rows(rows):
        if row[0] in ("set", "new", "get"):
            names.append(row[1])
        elif row[0] == "call":
            names.extend(row[1])
        elif row[0] == "both":
            names.extend(row[1] + row[4])
    return sorted(set(names))


class LooseRun:
    """A loose run of a piece, by chance."""

    def __init__(self, deeds, deed, piece, chance, locks=()):
        self.deeds = {some[0]: some for some in deeds}
        self.locks = dict(locks)
        self.deed, self.piece, self.chance = deed, piece, chance
        self.draws = []
        self.told = None

    def free(self, names):
        rows = [name for claim in claims_of(self.deed) for name in row_names(claim)]
        return {name: self.chance.row() if name in rows else self.chance.number() for name in names}

    def begin(self, known, ahead):
        self.worths = self.free(known)
        begun = dict(self.worths)
        self.cells = self.chance.lay(ahead, self.worths)
        self.told = (self.piece, begun, heap_from(self.cells), self.draws)

    def run(self):
        if self.piece == 0:
            self.run_deed()
        else:
            self.run_loop(*loops_from(self.deed[5])[(self.piece - 1) // 2])

    def run_deed(self):
        _, takes, tells, ahead, behind, rows = self.deed
        self.begin(takes, ahead)
        self.worths.update({name: 0 for name in locals_of(self.deed)})
        self.do_rows(rows, 0)
        self.end(behind, {name: self.worths[name] for name in list(takes) + ghosts_of(self.deed) + list(tells)})

    def run_loop(self, first, loop, around):
        known = list(self.deed[1]) + ghosts_of(self.deed) + locals_of(self.deed)
        for outer in around:
            known.extend([name for name in claim_names(outer[4]) if name not in known])
        self.begin(known, loop[4])
        own = {name: self.worths[name] for name in claim_names(loop[4]) if name not in known}
        if self.holds(loop) != (self.piece % 2 == 0):
            raise Dead()
        if self.piece % 2 == 0:
            self.do_rows(loop[6], first + 1)
            self.leap_loop(first, loop, known)
        self.end(loop[5], {**{name: self.worths[name] for name in known}, **own})

    def end(self, behind, worths):
        told = walked(behind, heap_from(self.cells), worths)
        if told is None or told[0] != heap_from(self.cells):
            raise Fail("end", None)

    def holds(self, row):
        return (number(row[1], self.worths) == number(row[3], self.worths)) == (row[2] == "is")

    def do_rows(self, rows, first):
        for row in rows:
            if row[0] == "if":
                holds = self.holds(row)
                self.do_rows(row[4] if holds else row[5], first + 1 + (0 if holds else len(all_rows(row[4]))))
            elif row[0] == "while":
                self.leap_loop(first, row, list(self.worths))
            elif row[0] == "call":
                takes, tells, ahead, behind = self.called(row)
                worths = {take: number(term, self.worths) for take, term in zip(takes, row[3])}
                self.leap(first, ahead, behind, worths, tells, row[1])
            elif row[0] == "both":
                self.leap_both(row, first)
            elif row[0] == "hold":
                self.leap_hold(row, first)
            else:
                self.plain(row, first)
            first += len(all_rows((row,)))

    def called(self, row):
        told = self.deeds.get(row[2], ("", None, None, None, None))[1:5]
        if told[0] is None or (len(told[0]), len(told[1])) != (len(row[3]), len(row[1])):
            raise Dead()
        return told

    def leap_both(self, row, here):
        """Both sides' takes are read ahead of all, and both parts are gone ahead of what comes in."""
        sides = [("call",) + row[1:4], ("call",) + row[4:7]]
        made = [self.called(side) for side in sides]
        read = [{take: number(term, self.worths) for take, term in zip(one[0], side[3])}
                for one, side in zip(made, sides)]
        known = [self.out(here, one[2], worths) for one, worths in zip(made, read)]
        for one, side, worths in zip(made, sides, known):
            self.back_in(one[3], worths, one[1], side[1])

    def leap_hold(self, row, here):
        if row[1] not in self.locks:
            raise Dead()
        self.back_in(self.locks[row[1]], {}, (), ())
        self.do_rows(row[2], here + 1)
        self.out(here, self.locks[row[1]], {})

    def plain(self, row, here):
        if row[0] == "set":
            self.worths[row[1]] = number(row[2], self.worths)
        elif row[0] == "new":
            address = self.chance.address(self.cells)
            self.cells[address] = (number(row[2], self.worths), number(row[3], self.worths))
            self.worths[row[1]] = address
            self.draws.append(address)
        else:
            self.touch(row, number(row[2] if row[0] == "get" else row[1], self.worths), here)

    def touch(self, row, address, here):
        if address not in self.cells:
            raise Fail("fault", here)
        if row[0] == "free":
            del self.cells[address]
        elif row[0] == "get":
            self.worths[row[1]] = self.cells[address][FIELD.index(row[3])]
        else:
            fields = list(self.cells[address])
            fields[FIELD.index(row[2])] = number(row[3], self.worths)
            self.cells[address] = tuple(fields)

    def leap_loop(self, here, loop, names):
        outs = sets_within(loop[6])
        self.leap(here, loop[4], loop[5], {name: self.worths[name] for name in names}, outs, outs)

    def leap(self, here, ahead, behind, worths, names, outs):
        self.back_in(behind, self.out(here, ahead, worths), names, outs)

    def out(self, here, ahead, worths):
        told = walked(ahead, heap_from(self.cells), worths)
        if told is None:
            raise Fail("lacks", here)
        for cell in told[0]:
            del self.cells[cell[0]]
        return told[1]

    def back_in(self, behind, worths, names, outs):
        numbers = tuple([self.chance.number() for _ in names])
        known = {**worths, **dict(zip(names, numbers))}
        come = self.chance.lay(behind, known, self.cells)
        self.cells.update(come)
        self.worths.update(zip(outs, numbers))
        self.draws.append((heap_from(come), numbers))


def some_run(deeds, deed, seed, locks=()):
    """A loose run of some piece, as it is told, and how it fails or None; None where it comes to nothing."""
    any_of = random.Random(seed)
    numbers = any_of.choice([(0, 1, 2, 3), (0, 1, 2, 3, 4, 5, 6), (-1, 0, 1, 2, 3, 7, 8, 9)])
    piece = any_of.randrange(1 + 2 * len(loops_from(deed[5])))
    run = LooseRun(deeds, deed, piece, Chance(any_of.random(), numbers), locks)
    try:
        run.run()
    except Dead:
        return None
    except Fail as fails:
        return run.told, fails.args
    return run.told, None


def failing_run(deeds, deed, tries, seed, locks=()):
    """A loose run that fails, as it is told, found by chance; None where none was found."""
    any_of = random.Random(seed)
    for _ in range(tries):
        found = some_run(deeds, deed, any_of.random(), locks)
        if found is not None and found[1] is not None:
            return found[0]
    return None
