"""A second reading of points 25 to 30: hands as generators, pieces as they stand within one another."""

from cellvouch.claims import claim_names
from cellvouch.deeds import ghosts_of, locals_of
from cellvouch.heaps import walked
from cellvouch.rows import all_rows
from tests.second import heap_from, loops_from, number, sets_within

FIELD = ["worth", "next"]


class Blame(Exception):
    """A loose run fails; what is told of it."""


class Unstarted(Exception):
    """The heap has no such parts."""


class Stop(Exception):
    """The weaving ends; how."""


class At:
    """A row to which a hand has come."""

    def __init__(self, stack, row, env, piece, calls):
        self.stack, self.row, self.env, self.piece, self.calls = stack, row, env, piece, calls
        self.name, self.here = stack[-1]
        self.lock = row[1] if row[0] == "hold" else None
        self.address = None
        if row[0] in ("get", "put", "free"):
            self.address = number(row[2] if row[0] == "get" else row[1], env)


class Node:
    """A hand in the tree of hands."""

    def __init__(self, path, above, body):
        self.path, self.above, self.body = path, above, body
        self.at = self.told = None
        self.sides = []


class Cells:
    """The cells of an open piece, and its loose run."""

    def __init__(self, sim, name, number, worths, ahead, source, fail):
        self.sim, self.name, self.number, self.begun = sim, name, number, dict(worths)
        self.draws = []
        if source is None:
            return
        told = walked(ahead, sim.heap_of(source.own), worths)
        if told is None:
            raise fail()
        self.heap, self.worths = told
        self.own = {cell[0] for cell in self.heap}
        source.own -= self.own

    def blame(self):
        return ("blame", self.name, (self.number, self.begun, self.heap, list(self.draws)))

    def finish(self, behind, worths):
        told = walked(behind, self.sim.heap_of(self.own), worths)
        if told is None or told[0] != self.sim.heap_of(self.own):
            raise Blame(self.blame())

    def take_in(self, addresses, numbers):
        self.draws.append((self.sim.heap_of(addresses), tuple(numbers)))
        self.own |= addresses


class Rest:
    def __init__(self, own):
        self.own = own


class OtherHands:
    """A weaving, guarded or not."""

    def __init__(self, works, locks, heap, places, watch):
        self.works = {work[0]: work for work in works}
        self.locks = dict(locks)
        self.cells = {cell[0]: cell[1:] for cell in heap}
        self.places = list(places)
        self.watch = watch
        self.held = set()
        self.care = {}
        self.log = []
        self.owned = []

    def heap_of(self, addresses):
        return heap_from({address: self.cells[address] for address in addresses})

    # What one hand does.

    def work(self, path, name, numbers, stack, source, fail):
        work = self.works[name]
        takes = dict(zip(work[1], numbers))
        piece = Cells(self, name, 0, takes, work[3], source, fail)
        env = {**{local: 0 for local in locals_of(work)}, **takes}
        return self.body(path, work, env, stack, piece), piece

    def body(self, path, work, env, stack, piece):
        yield from self.rows(path, work, work[5], 0, env, stack, piece, ())
        if self.watch:
            names = list(work[1]) + ghosts_of(work) + list(work[2])
            piece.finish(work[4], {name: {**piece.worths, **env}[name] for name in names})
        return [env[name] for name in work[2]]

    def rows(self, path, work, rows, here, env, stack, piece, around):
        for row in rows:
            at = At(stack + ((work[0], here),), row, env, piece, len(stack))
            yield at
            if row[0] == "if":
                holds = (number(row[1], env) == number(row[3], env)) == (row[2] == "is")
                yield from self.rows(path, work, row[4] if holds else row[5],
                                     here + 1 + (0 if holds else len(all_rows(row[4]))), env, stack, piece, around)
            elif row[0] == "while":
                yield from self.loop(path, work, row, here, env, stack, piece, around)
            elif row[0] == "call":
                body, inner = self.work(path, row[2], [number(term, env) for term in row[3]], at.stack,
                                        piece if self.watch else None, lambda: Blame(piece.blame()))
                at_work, self.pieces[path] = self.pieces.get(path), self.pieces.get(path, []) + [inner]
                numbers = yield from body
                self.pieces[path] = at_work
                if self.watch:
                    piece.take_in(inner.own, numbers)
                env.update(zip(row[1], numbers))
            elif row[0] == "both":
                yield from self.both(path, row, env, at, piece)
            elif row[0] == "hold":
                yield from self.hold(path, work, row, here, env, stack, piece, around)
            else:
                self.plain(row, env, piece)
            here += len(all_rows((row,)))

    def loop(self, path, work, row, here, env, stack, piece, around):
        """The loop from its row on, to which the hand has come."""
        holds = (number(row[1], env) == number(row[3], env)) == (row[2] == "is")
        inner = piece
        if self.watch:
            k = [first for first, _, _ in loops_from(work[5])].index(here)
            known = list(work[1]) + ghosts_of(work) + locals_of(work)
            for outer in around:
                known += [name for name in claim_names(outer[4]) if name not in known]
            now = {**piece.worths, **env}
            inner = Cells(self, work[0], 2 * k + (2 if holds else 1), {name: now[name] for name in known}, row[4],
                          piece, lambda: Blame(piece.blame()))
            self.pieces[path] = self.pieces[path] + [inner]
        if holds:
            yield from self.rows(path, work, row[6], here + 1, env, stack, inner, around + (row,))
            yield At(stack + ((work[0], here),), row, env, inner, len(stack))
            yield from self.loop(path, work, row, here, env, stack, inner, around)
        if self.watch:
            names = list(inner.worths)
            inner.finish(row[5], {name: {**inner.worths, **env}[name] for name in names})
            piece.take_in(inner.own, [env[name] for name in sets_within(row[6])])
            self.pieces[path] = self.pieces[path][:-1]

    def both(self, path, row, env, at, piece):
        made = []
        for k, (outs, name, terms) in enumerate((row[1:4], row[4:7])):
            body, inner = self.work(path + (k,), name, [number(term, env) for term in terms], at.stack,
                                    piece if self.watch else None, lambda: Blame(piece.blame()))
            made.append((outs, inner, body))
        for k, (_, inner, _) in enumerate(made):
            self.pieces[path + (k,)] = [inner]
        left, right = yield [body for _, _, body in made]
        for (outs, inner, _), numbers in zip(made, (left, right)):
            if self.watch:
                piece.take_in(inner.own, numbers)
            env.update(zip(outs, numbers))
        for k in (0, 1):
            del self.pieces[path + (k,)]

    def hold(self, path, work, row, here, env, stack, piece, around):
        self.held.add(row[1])
        if self.watch:
            piece.take_in(self.care.pop(row[1]), ())
        yield from self.rows(path, work, row[2], here + 1, env, stack, piece, around)
        if self.watch:
            told = walked(self.locks[row[1]], self.heap_of(piece.own), {})
            if told is None:
                raise Blame(piece.blame())
            self.care[row[1]] = {cell[0] for cell in told[0]}
            piece.own -= self.care[row[1]]
        self.held.remove(row[1])

    def plain(self, row, env, piece):
        if row[0] == "set":
            env[row[1]] = number(row[2], env)
        elif row[0] == "new":
            address = self.place()
            self.cells[address] = (number(row[2], env), number(row[3], env))
            env[row[1]] = address
            if self.watch:
                piece.own.add(address)
                piece.draws.append(address)
        elif row[0] == "free":
            del self.cells[number(row[1], env)]
            if self.watch:
                piece.own.remove(number(row[1], env))
        elif row[0] == "get":
            env[row[1]] = self.cells[number(row[2], env)][FIELD.index(row[3])]
        else:
            fields = list(self.cells[number(row[1], env)])
            fields[FIELD.index(row[2])] = number(row[3], env)
            self.cells[number(row[1], env)] = tuple(fields)

    def place(self):
        while self.places:
            address = self.places.pop(0)
            if address not in self.cells:
                return address
        return min(set(range(1, len(self.cells) + 2)) - set(self.cells))

    # The hands together.

    def begin(self, name, numbers):
        work, rest = self.works[name], Rest(set(self.cells))
        self.pieces = {}
        body, piece = self.work((), name, numbers, (), rest if self.watch else None, Unstarted)
        self.pieces[()] = [piece]
        if self.watch:
            for lock, claim in self.locks.items():
                told = walked(claim, self.heap_of(rest.own), {})
                if told is None:
                    raise Unstarted()
                self.care[lock] = {cell[0] for cell in told[0]}
                rest.own -= self.care[lock]
        self.first = Node((), None, body)
        self.note()
        self.advance(self.first, None)

    def note(self):
        if self.watch:
            owned = {address: ("nobody",) for address in self.cells}
            for lock, addresses in self.care.items():
                owned.update({address: ("lock", lock) for address in addresses})
            for path, pieces in self.pieces.items():
                for piece in pieces:
                    owned.update({address: ("hand", path) for address in piece.own})
            self.owned.append(owned)

    def advance(self, node, sent):
        """Let a hand do its row, up to the next one."""
        try:
            told = node.body.send(sent)
        except StopIteration as stops:
            self.ended(node, stops.value)
            return
        if isinstance(told, At):
            node.at = told
            return
        node.at = None
        node.sides = [Node(node.path + (k,), node, body) for k, body in enumerate(told)]
        for side in list(node.sides):
            self.advance(side, None)

    def ended(self, node, numbers):
        node.at, node.told = None, numbers
        above = node.above
        if above is not None and all(side.told is not None for side in above.sides):
            told = [side.told for side in above.sides]
            above.sides = []
            self.advance(above, told)

    def standing(self, node=None):
        node = node or self.first
        if node.sides:
            return self.standing(node.sides[0]) + self.standing(node.sides[1])
        return [] if node.at is None else [node]

    def ready(self):
        return [node for node in self.standing() if node.at.lock is None or node.at.lock not in self.held]

    def race(self):
        ready = self.ready()
        for k, one in enumerate(ready):
            for other in ready[k + 1:]:
                if one.at.address is not None and one.at.address == other.at.address:
                    if not one.at.row[0] == other.at.row[0] == "get":
                        return [one, other]
        return None

    def check(self):
        """Raise Stop where the weaving ends ahead of a step."""
        if self.first.told is not None:
            raise Stop(("ends", tuple(self.first.told), heap_from(self.cells)), [])
        race = self.race()
        if race is not None:
            for node in race:
                if self.watch and node.at.address not in node.at.piece.own:
                    raise Stop(node.at.piece.blame(), [])
            raise Stop(("race", race[0].at.stack[-1], race[1].at.stack[-1], race[0].at.address), race)
        if not self.ready():
            still = self.standing()
            raise Stop(("still", tuple([node.at.stack[-1] for node in still])), still)

    def meet(self, at):
        row = at.row
        for outs, name, terms in {"call": [row[1:]], "both": [row[1:4], row[4:7]]}.get(row[0], []):
            work = self.works.get(name)
            if work is None or (len(work[1]), len(work[2])) != (len(terms), len(outs)):
                raise Stop(("absent", name), [])
        if at.lock is not None and at.lock not in self.locks:
            raise Stop(("unlocked", at.lock), [])
        if row[0] in ("call", "both") and at.calls == 59:
            raise Stop(("deep",), [])
        if at.address is not None:
            if self.watch and at.address not in at.piece.own:
                raise Stop(at.piece.blame(), [])
            if at.address not in self.cells:
                raise Stop(("fault",) + at.stack[-1], [])

    def run(self, name, numbers, schedule, steps):
        """The outcome, and the stacks of those whom it concerns."""
        try:
            self.begin(name, numbers)
            while True:
                self.check()
                if len(self.log) == steps:
                    raise Stop(("steps",), [])
                ready = self.ready()
                drawn = schedule[len(self.log)] if len(self.log) < len(schedule) else 0
                node = ready[drawn % len(ready)]
                self.meet(node.at)
                stood = (node.path,) + node.at.stack[-1]
                self.advance(node, None)
                self.log.append(stood)
                self.note()
        except Blame as blame:
            return blame.args[0], ()
        except Stop as stop:
            return stop.args[0], tuple([node.at.stack for node in stop.args[1]])


def other_woven(works, locks, name, numbers, heap, schedule=(), places=(), steps=1000):
    hands = OtherHands(works, locks, heap, places, False)
    told, stacks = hands.run(name, numbers, schedule, steps)
    return told, tuple(hands.log), stacks


def other_guarded(works, locks, name, numbers, heap, schedule=(), places=(), steps=1000):
    """The outcome and the owners; None where there is no start."""
    hands = OtherHands(works, locks, heap, places, True)
    try:
        told, _ = hands.run(name, numbers, schedule, steps)
    except Unstarted:
        return None
    return told, tuple(hands.owned)
