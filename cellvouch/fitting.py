"""Claims that are met in the heap of a case, and claims that come into it."""

from cellvouch.claims import in_order, is_known
from cellvouch.meeting import Fails, Way, cell_ways, left_of, must_be_apart, strolls, where_apart, where_one, word_in
from cellvouch.settling import can_be_so
from cellvouch.words import number_of, turned


def are_alike(case, one, other):
    """Whether two pieces are known to stand for the same."""
    if one[0] == "one" and other[0] == "one":
        return case.are_one(one[1], other[1])
    return one == other


def unlike_ends(case, one, other):
    """Two words without what they have in common at their beginnings and ends."""
    one, other = case.word(one), case.word(other)
    first = 0
    while first < min(len(one), len(other)) and are_alike(case, one[first], other[first]):
        first += 1
    one, other = one[first:], other[first:]
    while one and other and are_alike(case, one[-1], other[-1]):
        one, other = one[:-1], other[:-1]
    return one, other


def split_by_row(case, row):
    """The cases in which a row is empty, and in which it isn't."""
    empty, full = case.twin(), case.twin()
    empty.rows[row] = ()
    full.full[row] = True
    return [told for told in (empty, full) if can_be_so(told)]


def split_by_words(case, one, other):
    """Cases in which more is known of two words that don't begin alike; fails where they stand for two rows."""
    pieces = [word[0] for word in (one, other) if word]
    for kind, term in pieces:
        if kind != "one" and term not in case.full:
            return split_by_row(case, term)
    # Each row that isn't empty may have two numbers or more that stand nowhere else.
    if [kind for kind, term in pieces if kind != "one"] or len(pieces) == 1:
        raise Fails(case)
    apart = where_apart(case, pieces[0][1], pieces[1][1])
    if apart is not None:
        raise Fails(apart)
    return [where_one(case, pieces[0][1], pieces[1][1])]


def where_words_are_one(case, one, other):
    """The cases in which two words stand for one row; fails where they may stand for two."""
    going, out = [case], []
    while going:
        told = going.pop()
        first, second = unlike_ends(told, one, other)
        if first or second:
            going.extend(split_by_words(told, first, second))
        else:
            out.append(told)
    return out


def stretch_ways(way, part):
    """The ways in which a stretch of a claim is met."""
    _, x, y, word = part
    out = []
    for stroll in strolls(way, number_of(x, way.worths), number_of(y, way.worths)):
        told = stroll.way
        if len(word) == 1 and not is_known(word[0][1], told.worths):
            told.worths[word[0][1]] = stroll.passed if word[0][0] == "row" else turned(stroll.passed)
            out.append(told)
        else:
            cases = where_words_are_one(told.case, stroll.passed, word_in(word, told.worths))
            out.extend([told.with_case(case) for case in cases])
    return out


def item_ways(way, item):
    """The ways in which a part or a fact of a claim is met."""
    if item[0] == "cell":
        return cell_ways(way, item)
    if item[0] == "row":
        return stretch_ways(way, item)
    told = way.with_case(way.case)
    known, other = item[1], item[2]
    if item[0] == "apart":
        must_be_apart(way.case, number_of(known, way.worths), number_of(other, way.worths))
    elif is_known(known, way.worths):
        told.agrees(other, number_of(known, way.worths))
    else:
        told.agrees(known, number_of(other, way.worths))
    return [told]


def must_be_empty(case, blocks):
    """Fail where one of these blocks can have a cell."""
    for block in blocks:
        told = case.twin()
        if told.blocks[block][0] == "row":
            told.part(told.blocks[block][1], told.blocks[block][2])
        if can_be_so(told):
            raise Fails(told)


def met(case, claim, worths, whole):
    """The ways in which a part of the heap (or, whole: all of it) is the claim; fails where none is."""
    ways = [Way(case, dict(worths), ())]
    for item in in_order(claim, list(worths)):
        found = []
        for way in ways:
            found.extend(item_ways(way, item))
        ways = found
    if whole:
        for way in ways:
            must_be_empty(way.case, left_of(way.case, way.taken))
    return ways


def number_for(case, term, worths):
    """The number of a term; of a name that isn't known, one of which nothing is known."""
    if not is_known(term, worths):
        worths[term] = case.new_number()
    return number_of(term, worths)


def row_for(case, name, worths):
    """Give a name, if it isn't known, a row of which nothing is known."""
    if name not in worths:
        worths[name] = (("row", case.new_row()),)


def bring_fact(case, kind, one, other):
    """Note that a fact is so."""
    if kind == "apart":
        case.part(one, other)
    elif not case.unite(one, other):
        # Nothing can be so where a number is apart from itself.
        case.part(one, one)


def bring_item(case, item, worths):
    """Bring in a part or a fact; told is the block, or None for a fact."""
    first, second = [number_for(case, term, worths) for term in item[1:3]]
    if item[0] in ("same", "apart"):
        bring_fact(case, item[0], first, second)
        return None
    if item[0] == "cell":
        return case.bring(("cell", first, second, number_for(case, item[3], worths)))
    for kind, name in item[3]:
        if kind != "one":
            row_for(case, name, worths)
    return case.bring(("row", first, second, word_in(item[3], worths)))


def brought(case, claim, worths):
    """Bring a claim into the heap, its names into the worths; told are its blocks, or None where that can't be."""
    blocks = []
    for item in in_order(claim, list(worths)):
        block = bring_item(case, item, worths)
        if block is not None:
            blocks.append(block)
    return blocks if can_be_so(case) else None
