"""Where a case is met by an address or a claim: what is there, in each way in which it can be.

What is asked of a case is told as a list of cases, one for each way in which it can be so. Where there is a
way in which it isn't so, Fails is raised with that one.
"""

from cellvouch.cases import lookout
from cellvouch.claims import is_known
from cellvouch.settling import can_be_so
from cellvouch.words import number_of, turned


class Fails(Exception):
    """A case in which what was asked isn't so."""

    def __init__(self, case):
        super().__init__("it can be otherwise")
        self.case = case


def where_one(case, one, other):
    """The case in which two numbers are one, or None."""
    told = case.twin()
    return told if told.unite(one, other) and can_be_so(told) else None


def where_apart(case, one, other):
    """The case in which two numbers are apart, or None."""
    if case.are_one(one, other):
        return None
    told = case.twin()
    told.part(one, other)
    return told if can_be_so(told) else None


def must_be_one(case, one, other):
    """Fail where two numbers can be apart."""
    told = where_apart(case, one, other)
    if told is not None:
        raise Fails(told)


def must_be_apart(case, one, other):
    """Fail where two numbers can be one."""
    told = where_one(case, one, other)
    if told is not None:
        raise Fails(told)


def word_in(word, worths):
    """What a word of names stands for, as a word of a case."""
    out = []
    for kind, term in word:
        if kind == "one":
            out.append(("one", number_of(term, worths)))
        else:
            out.extend(worths[term] if kind == "row" else turned(worths[term]))
    return tuple(out)


def split_off(case, block):
    """Take a stretch, whose word begins with a number, apart into its first cell and the rest; told is the cell."""
    x, y = case.blocks[block][1:3]
    word = case.word_at(block)
    after = case.new_number() if len(word) > 1 else y
    case.take_out([block])
    others = list(case.beside[block])
    cell = case.add_block(("cell", x, word[0][1], after), others)
    case.live[cell] = (word[0][1], after)
    if len(word) > 1:
        rest = case.add_block(("row", after, y, word[1:]), others + [cell])
        case.live[rest] = ()
        case.inner[block] = (cell, rest)
    return cell


def first_cells(case, block):
    """Pairs (case, cell): the first cell of a stretch that surely has one, taken apart from it."""
    if case.blocks[block][0] == "cell":
        return [(case, block)]
    out = []
    word = case.word_at(block)
    while word[0][0] != "one":
        kind, row = word[0]
        told = case.twin()
        rest = told.new_row()
        first = ("one", told.new_number())
        told.rows[row] = (first, ("row", rest)) if kind == "row" else (("row", rest), first)
        if can_be_so(told):
            out.append((told, split_off(told, block)))
        if row in case.full:
            return out
        case = case.twin()
        case.rows[row] = ()
        if not can_be_so(case):
            return out
        word = case.word_at(block)
    case = case.twin()
    return out + [(case, split_off(case, block))]


def surely_at(case, number, blocks):
    """Which of these blocks surely has a cell at this number, or None."""
    for block in blocks:
        if block in case.held and case.are_one(case.blocks[block][1], number):
            return block
    return None


def where_begins(case, block, number):
    """The case in which a block has a cell, the first one at this number; or None."""
    told = case.twin()
    x = told.blocks[block][1]
    if told.blocks[block][0] == "row":
        told.part(x, told.blocks[block][2])
    return told if told.unite(x, number) and can_be_so(told) else None


def left_of(case, taken):
    """The blocks of the heap that haven't been taken."""
    return [block for block in case.live if block not in taken]


def cells_at(case, number, taken):
    """Pairs (case, cell): the cell at this number, among what hasn't been taken."""
    blocks = left_of(case, taken)
    sure = surely_at(case, number, blocks)
    if sure is not None:
        return first_cells(case, sure)
    told = case.twin()
    lookout(told, number, blocks)
    if can_be_so(told):
        raise Fails(told)
    out = []
    for block in blocks:
        told = where_begins(case, block, number)
        if told is not None:
            out.extend(first_cells(told, block))
    return out


class Way:
    """A way in which a claim is met: the case, the worths of its names, the blocks taken by now."""

    def __init__(self, case, worths, taken):
        self.case = case
        self.worths = worths
        self.taken = taken

    def with_case(self, case, taken=()):
        """The same way in another case, with more blocks taken."""
        return Way(case, dict(self.worths), self.taken + taken)

    def agrees(self, term, number):
        """Fail where a term can be another number; a name that isn't known becomes it."""
        if is_known(term, self.worths):
            must_be_one(self.case, number_of(term, self.worths), number)
        else:
            self.worths[term] = number


def cell_ways(way, part):
    """The ways in which a cell of a claim is met."""
    out = []
    for case, cell in cells_at(way.case, number_of(part[1], way.worths), way.taken):
        told = way.with_case(case, (cell,))
        told.agrees(part[2], case.live[cell][0])
        told.agrees(part[3], case.live[cell][1])
        out.append(told)
    return out


class Stroll:
    """The way along a stretch, with the number come to, that which ends it, and the word passed by now."""

    def __init__(self, way, at, end, passed):
        self.way = way
        self.at = at
        self.end = end
        self.passed = passed

    def with_case(self, case):
        """The same in another case."""
        return Stroll(self.way.with_case(case), self.at, self.end, self.passed)

    def past(self, case, block):
        """Behind a block."""
        kind, _, third, fourth = case.blocks[block]
        if kind == "cell":
            worth, after = case.live[block]
            return Stroll(self.way.with_case(case, (block,)), after, self.end, self.passed + (("one", worth),))
        return Stroll(self.way.with_case(case, (block,)), third, self.end, self.passed + fourth)


def next_block(case, number, blocks):
    """A block that begins at this number, sooner one that has a cell; or None."""
    sure = surely_at(case, number, blocks)
    if sure is not None:
        return sure
    for block in blocks:
        if block in case.unsure and case.are_one(case.blocks[block][1], number):
            return block
    return None


def through(stroll, block):
    """The strolls on from a block that begins where one has come to."""
    case = stroll.way.case
    # Without a cell it is all one whether one goes through it. Its end isn't met
    # within it, or else the claim would fail, too, where its cells lie elsewhere.
    met = where_begins(case, block, stroll.end)
    if met is None:
        return [stroll.past(case, block)]
    out = [stroll.with_case(where_one(case, stroll.at, stroll.end))]
    beyond = where_apart(case, stroll.at, stroll.end)
    if beyond is not None:
        out.append(stroll.past(beyond, block))
    return out


def onto(stroll, blocks):
    """The strolls on from a number at which no block is known to begin."""
    case = stroll.way.case
    away = where_apart(case, stroll.at, stroll.end)
    out = []
    if away is not None:
        told = away.twin()
        lookout(told, stroll.at, blocks)
        if can_be_so(told):
            raise Fails(told)
        for block in blocks:
            told = where_begins(away, block, stroll.at)
            if told is not None:
                out.append(stroll.with_case(told))
    ended = where_one(case, stroll.at, stroll.end)
    return out if ended is None else out + [stroll.with_case(ended)]


def strolls(way, at, end):
    """The strolls from a number to the one that ends them."""
    going, out = [Stroll(way, at, end, ())], []
    while going:
        stroll = going.pop()
        case = stroll.way.case
        if case.are_one(stroll.at, end):
            out.append(stroll)
            continue
        blocks = left_of(case, stroll.way.taken)
        block = next_block(case, stroll.at, blocks)
        going.extend(onto(stroll, blocks) if block is None else through(stroll, block))
    return out
