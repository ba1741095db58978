"""All loose runs of a piece at once: paths, each a case with what was drawn on the way to it."""

from cellvouch.cases import Case
from cellvouch.fitting import brought, met, number_for, row_for
from cellvouch.loops import Piece, deed_rows, names_set_within
from cellvouch.machine import end_of_hold, planned
from cellvouch.meeting import Fails, cells_at, where_apart, where_one
from cellvouch.models import Model, numbers_in
from cellvouch.needs import Needs
from cellvouch.rows import FIELDS, all_rows, calls_in
from cellvouch.words import number_of


class Path:
    """A case, the worths of names in it, and the draws: an address, or blocks and numbers."""

    def __init__(self, case, worths, draws):
        self.case = case
        self.worths = worths
        self.draws = draws

    def with_case(self, case):
        """The same path in another case."""
        return Path(case, dict(self.worths), self.draws)

    def drawn(self, draw):
        """Note a draw."""
        self.draws = self.draws + (draw,)


def set_paths(path, row):
    """The paths behind a set."""
    path.worths[row[1]] = number_of(row[2], path.worths)
    return [path]


def new_paths(path, row):
    """The paths behind a new."""
    address = path.case.new_number()
    worth, after = [number_of(term, path.worths) for term in row[2:4]]
    path.case.bring(("cell", address, worth, after))
    path.worths[row[1]] = address
    path.drawn(address)
    return [path]


def touched(path, term):
    """Pairs (path, cell) where a cell lies at a term; fails where none may lie there."""
    pairs = cells_at(path.case, number_of(term, path.worths), ())
    return [(path.with_case(case), cell) for case, cell in pairs]


def free_paths(path, row):
    """The paths behind a free."""
    out = []
    for told, cell in touched(path, row[1]):
        told.case.take_out([cell])
        out.append(told)
    return out


def get_paths(path, row):
    """The paths behind a get."""
    out = []
    for told, cell in touched(path, row[2]):
        told.worths[row[1]] = told.case.live[cell][FIELDS.index(row[3])]
        out.append(told)
    return out


def put_paths(path, row):
    """The paths behind a put."""
    out = []
    for told, cell in touched(path, row[1]):
        fields = list(told.case.live[cell])
        fields[FIELDS.index(row[2])] = number_of(row[3], told.worths)
        told.case.live[cell] = tuple(fields)
        out.append(told)
    return out


PLAIN = {"set": set_paths, "new": new_paths, "free": free_paths, "get": get_paths, "put": put_paths}


def where_met(path, row, holds):
    """The paths, at most one, where the test of an if or a loop holds, or doesn't."""
    one, other = number_of(row[1], path.worths), number_of(row[3], path.worths)
    alike = holds == (row[2] == "is")
    case = where_one(path.case, one, other) if alike else where_apart(path.case, one, other)
    return [] if case is None else [path.with_case(case)]


def gone_out(path, claim, known):
    """Pairs (path, worths) where a claim has gone out, by these worths, and those of all its names."""
    out = []
    for way in met(path.case, claim, known, False):
        told = path.with_case(way.case.twin())
        told.case.take_out(way.taken)
        out.append((told, dict(way.worths)))
    return out


def came_in(path, claim, known, names):
    """The paths, at most one, where a claim has come in; names are pairs of names of it and outs of ours.

    Changes the path.
    """
    theirs, ours = names
    numbers = [path.case.new_number() for _ in theirs]
    worths = dict(known)
    worths.update({name: number for name, number in zip(theirs, numbers)})
    blocks = brought(path.case, claim, worths)
    if blocks is None:
        return []
    path.worths.update({name: number for name, number in zip(ours, numbers)})
    path.drawn((blocks, numbers))
    return [path]


class Search:
    """A look for a loose run of a piece that fails; Fails is raised at the first one, latest is the path to it."""

    def __init__(self, deeds, locks, piece):
        self.deeds = deeds
        self.locks = locks
        self.piece = piece
        self.behind = piece.first + len(all_rows(piece.rows))
        self.plan = planned(piece.rows, piece.first, self.behind)
        self.needs = Needs(piece, self.plan, self.behind)
        self.latest = None
        self.blocks = None
        self.started = {}

    def begin(self):
        """The paths, at most one, with which the piece begins."""
        piece, case = self.piece, Case()
        rows = deed_rows(piece.deed)
        for name in piece.known:
            if name in rows:
                row_for(case, name, self.started)
            else:
                number_for(case, name, self.started)
        worths = dict(self.started)
        self.blocks = brought(case, piece.ahead, worths)
        if self.blocks is None:
            return []
        worths.update(piece.locals_at_first())
        path = Path(case, worths, ())
        return [path] if piece.loop is None else where_met(path, piece.loop, piece.asked)

    def next_paths(self, path, step):
        """Pairs (path, number): the paths behind a row of the plan, and the rows to which they come."""
        row, on, off = step
        if row[0] == "if":
            met_at = [(told, on) for told in where_met(path, row, True)]
            return met_at + [(told, off) for told in where_met(path, row, False)]
        if row[0] == "while":
            return [(told, off) for told in self.leap_loop(row, path, list(path.worths))]
        if row[0] == "hold":
            return [(told, on) for told in came_in(path, self.locks[row[1]], {}, ((), ()))]
        if row[0] in ("call", "both"):
            return [(told, on) for told in self.leap_calls(path, calls_in(row))]
        if row[0] == "get" and row[1] not in self.needs.needed(on):
            # Nobody reads the number: all there is to it is that the cell is there, in each way in which it can be.
            touched(path, row[2])
            return [(path, on)]
        action = PLAIN[row[0]]
        return [(told, on) for told in action(path, row)]

    def step_at(self, here):
        """The row with this number, and where it leads."""
        return self.plan[here - self.piece.first]

    def behind_hold(self, path, step):
        """Pairs (path, number): the paths behind a hold that has come to its end, and the row to which they come."""
        row, _, off = step
        return [(told, off) for told, _ in gone_out(path, self.locks[row[1]], {})]

    def leap_loop(self, row, path, names):
        """The paths behind a loop whose claim ahead goes by these names."""
        known = {name: path.worths[name] for name in names}
        outs = names_set_within(row)
        out = []
        for told, worths in gone_out(path, row[4], known):
            out.extend(came_in(told, row[5], worths, (outs, outs)))
        return out

    def leap_calls(self, path, calls):
        """The paths behind a call or a both: all that goes out goes ahead of all that comes in."""
        going = [(path, ())]
        for _, name, terms in calls:
            takes, ahead = self.deeds[name][1], self.deeds[name][3]
            gone = []
            for told, known in going:
                worths = {take: number_of(term, path.worths) for take, term in zip(takes, terms)}
                gone.extend([(more, known + (inner,)) for more, inner in gone_out(told, ahead, worths)])
            going = gone
        out = []
        for told, known in going:
            out.extend(self.come_back(told, calls, known))
        return out

    def come_back(self, path, calls, known):
        """The paths, at most one, where all that was called has come in."""
        paths = [path]
        for (outs, name, _), worths in zip(calls, known):
            tells, behind = self.deeds[name][2], self.deeds[name][4]
            come = []
            for told in paths:
                come.extend(came_in(told, behind, worths, (tells, outs)))
            paths = come
        return paths

    def end(self, path):
        """Be at the end with a path."""
        worths = {name: path.worths[name] for name in self.piece.names_at_end()}
        met(path.case, self.piece.behind, worths, True)

    def look(self):
        """Go all paths of the piece, one by one, to their ends."""
        piece, behind = self.piece, self.behind
        going = [(told, piece.first) for told in self.begin()]
        while going:
            path, at = going.pop()
            self.latest = path
            if at < 0:
                going.extend(self.behind_hold(path, self.step_at(end_of_hold(at))))
            elif at < behind:
                going.extend(self.next_paths(path, self.step_at(at)))
            elif at == behind and piece.asked:
                # The loop itself comes behind its rows, and the end behind it.
                leapt = self.leap_loop(piece.loop, path, piece.known)
                going.extend([(told, behind + 1) for told in leapt])
            else:
                self.end(path)

    def told(self, case, avoided):
        """A loose run in this case: what it begins with, and its draws."""
        model = Model(case, avoided)
        draws = []
        for draw in self.latest.draws:
            if isinstance(draw, tuple):
                blocks, numbers = draw
                draws.append((model.as_heap(blocks), tuple([model.as_number(number) for number in numbers])))
            else:
                draws.append(model.as_number(draw))
        return model.as_worths(self.started), model.as_heap(self.blocks), draws


def failing(deeds, locks, deed, number):
    """A loose run of a piece that fails, as it is told; None where there is none."""
    search = Search(deeds, locks, Piece(deed, number))
    try:
        search.look()
    except Fails as found:
        avoided = numbers_in(tuple(deeds.values()) + tuple(locks.values()))
        return (number,) + search.told(found.case, avoided)
    return None
