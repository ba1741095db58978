"""What follows from that which is known in a case, and whether it can be so at all."""

from cellvouch.cases import rows_in_word
from cellvouch.words import is_whole


def held_at(case):
    """The blocks that surely have a cell, by where they begin; None where two have the same one, or one begins at 0."""
    found = {}
    for block in case.held:
        at = case.root(case.blocks[block][1])
        if is_whole(at) and at <= 0 and case.blocks[block][0] != "look":
            return None
        others = found.setdefault(at, [])
        if are_beside(case, block, others):
            return None
        others.append(block)
    return found


def are_beside(case, block, others):
    """Whether some of the others were there at one time with a block."""
    beside = case.beside[block]
    return bool([other for other in others if other in beside])


def apart_roots(case):
    """All pairs of numbers that were noted to be apart, both ways about; None where they are one."""
    pairs = {}
    for one, other in case.aparts:
        first, second = case.root(one), case.root(other)
        if first == second:
            return None
        pairs[first, second] = True
        pairs[second, first] = True
    return pairs


def is_below(number):
    """Whether no cell lies at this number."""
    return is_whole(number) and number <= 0


def has_cell(case, blocks):
    """Whether one of these blocks is a cell or a stretch."""
    return bool([block for block in blocks if case.blocks[block][0] != "look"])


def are_apart(case, one, other, held, pairs):
    """Whether two numbers, each told by its root, are known to be apart."""
    if (is_whole(one) and is_whole(other)) or (one, other) in pairs:
        return one != other
    first, second = held.get(one, []), held.get(other, [])
    if is_below(one) or is_below(other):
        return has_cell(case, first) or has_cell(case, second)
    return bool([block for block in first if are_beside(case, block, second)])


def has_numbers(case, block, held, pairs):
    """Whether a stretch surely has a cell, or surely none; None where neither is known."""
    x, y = case.root(case.blocks[block][1]), case.root(case.blocks[block][2])
    word = case.word_at(block)
    if not word:
        return False
    if case.is_filled(word):
        return True
    if x == y or is_below(x) or are_beside(case, block, held.get(x, [])):
        return False
    return True if are_apart(case, x, y, held, pairs) else None


def fill(case, block):
    """Note that a stretch has a cell."""
    del case.unsure[block]
    case.held[block] = True
    case.part(case.blocks[block][1], case.blocks[block][2])
    case.filled.append(case.blocks[block][3])


def drain(case, block):
    """Note that a stretch has no cell; False where it has one."""
    del case.unsure[block]
    word = case.word_at(block)
    if case.is_filled(word):
        return False
    for row in rows_in_word(word):
        case.rows[row] = ()
    return case.unite(case.blocks[block][1], case.blocks[block][2])


def fill_rows(case):
    """Note which row it must be that fills a word; None where there is none, else whether anything was noted."""
    left, noted = [], False
    for noticed in case.filled:
        word = case.word(noticed)
        rows = rows_in_word(word)
        if not word:
            return None
        if case.is_filled(word):
            continue
        if len(rows) == 1:
            case.full[rows[0]] = True
            noted = True
        else:
            left.append(word)
    case.filled = left
    return noted


def decide(case, held, pairs):
    """Note which stretches have cells, where that is known; None where that can't be, else whether any was noted."""
    noted = False
    for block in list(case.unsure):
        told = has_numbers(case, block, held, pairs)
        if told is None:
            continue
        noted = True
        if told:
            fill(case, block)
        elif not drain(case, block):
            return None
    return noted


def settle(case):
    """Note all that follows at once; False where it is found that it can't be so."""
    while True:
        held, pairs = held_at(case), apart_roots(case)
        if held is None or pairs is None:
            return False
        decided = decide(case, held, pairs)
        filled = None if decided is None else fill_rows(case)
        if filled is None:
            return False
        if not decided and not filled:
            return True


def rivals(case):
    """Two stretches that begin at one number, of which at most one has a cell; or None."""
    found = {}
    for block in case.unsure:
        others = found.setdefault(case.root(case.blocks[block][1]), [])
        for other in others:
            if other in case.beside[block]:
                return (other, block)
        others.append(block)
    return None


def completed(case):
    """The settled case with so much known that all else can be as one likes; None where nothing can be so.

    Where no two stretches are rivals, each of them may have cells, and each number that isn't known to be
    another one may be one of its own.
    """
    pair = rivals(case)
    if pair is None:
        return case
    for block in pair:
        other = case.twin()
        if drain(other, block) and settle(other):
            told = completed(other)
            if told is not None:
                return told
    return None


def can_be_so(case):
    """Whether a case can be so; what follows is noted in it."""
    return settle(case) and completed(case) is not None
