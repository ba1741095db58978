"""What follows from that which is known in a case, and whether it can be so at all."""

from cellvouch.cases import rows_in_word
from cellvouch.words import is_whole


def are_beside(case, block, others):
    """Whether some of the others were there at one time with a block."""
    beside = case.beside[block]
    return bool([other for other in others if other in beside])


def is_below(number):
    """Whether no cell lies at this number."""
    return is_whole(number) and number <= 0


def held_at(case):
    """The blocks that surely have a cell, by where they begin; None where that can't be."""
    found = {}
    for block in case.held:
        at = case.root(case.blocks[block][1])
        if is_below(at) and case.blocks[block][0] != "look":
            return None
        others = found.setdefault(at, [])
        if are_beside(case, block, others):
            return None
        others.append(block)
    return found


def are_apart(case):
    """Whether all numbers that were noted to be apart aren't known to be one."""
    return not [pair for pair in case.aparts if case.are_one(pair[0], pair[1])]


def has_cell(case, block, held):
    """Whether a stretch surely has a cell, or surely none; None where neither is known."""
    word = case.word_at(block)
    if case.is_filled(word):
        return True
    x, y = case.root(case.blocks[block][1]), case.root(case.blocks[block][2])
    if not word or x == y or is_below(x) or are_beside(case, block, held.get(x, [])):
        return False
    return None


def fill(case, block):
    """Note that a stretch has a cell."""
    del case.unsure[block]
    case.held[block] = True
    case.part(case.blocks[block][1], case.blocks[block][2])


def drain(case, block):
    """Note that a stretch has no cell; False where its ends are known to be two whole numbers."""
    del case.unsure[block]
    for row in rows_in_word(case.word_at(block)):
        case.rows[row] = ()
    return case.unite(case.blocks[block][1], case.blocks[block][2])


def decide(case, held):
    """Note which stretches have cells, where that is known; None where that can't be, else whether any was noted."""
    noted = False
    for block in list(case.unsure):
        told = has_cell(case, block, held)
        if told is None:
            continue
        noted = True
        if told:
            fill(case, block)
        elif not drain(case, block):
            return None
    return noted


def settle(case):
    """Note all that follows at once; False where it is found that it can't be so."""
    noted = True
    while noted:
        held = held_at(case)
        if held is None or not are_apart(case):
            return False
        noted = decide(case, held)
    return noted is not None


def rivals(case):
    """Two stretches that begin at one number, of which at most one has a cell; or None."""
    found = {}
    for block in case.unsure:
        others = found.setdefault(case.root(case.blocks[block][1]), [])
        for other in others:
            if other in case.beside[block]:
                return (other, block)
        others.append(block)
    return None


def completed(case):
    """The settled case with so much known that all else can be as one likes; None where nothing can be so.

    Where no two stretches are rivals, each of them of which nothing is known may have cells, and each number
    that isn't known to be another one may be one of its own.
    """
    pair = rivals(case)
    if pair is None:
        return case
    for block in pair:
        other = case.twin()
        if drain(other, block) and settle(other):
            told = completed(other)
            if told is not None:
                return told
    return None


def can_be_so(case):
    """Whether a case can be so; what follows is noted in it."""
    return settle(case) and completed(case) is not None
