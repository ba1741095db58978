"""Claims, and by which names they are lawful (points 5 and 6 of the document)."""

from cellvouch.words import is_name, is_term, is_whole, is_word

MOST_PARTS = 5
MOST_FACTS = 4


def is_part(thing):
    """Whether thing is a cell or a stretch."""
    if not isinstance(thing, tuple) or len(thing) != 4:
        return False
    kind, x, third, fourth = thing
    if kind == "cell":
        return is_term(x) and is_term(third) and is_term(fourth)
    return kind == "row" and is_term(x) and is_term(third) and is_word(fourth)


def is_fact(thing):
    """Whether thing is a same or an apart."""
    if not isinstance(thing, tuple) or len(thing) != 3:
        return False
    return thing[0] in ("same", "apart") and is_term(thing[1]) and is_term(thing[2])


def has_form(thing):
    """Whether thing is built as a claim is, whatever its names stand for."""
    if not isinstance(thing, tuple) or len(thing) != 2:
        return False
    parts, facts = thing
    if not isinstance(parts, tuple) or not isinstance(facts, tuple):
        return False
    if len(parts) > MOST_PARTS or len(facts) > MOST_FACTS:
        return False
    return all([is_part(part) for part in parts]) and all([is_fact(fact) for fact in facts])


def is_claim(thing):
    """Whether thing, which may be anything, is a claim."""
    if not has_form(thing):
        return False
    terms = term_names(thing)
    return not [name for name in row_names(thing) if name in terms]


def terms_in(item):
    """The terms of a part or a fact, those of its word among them."""
    if item[0] != "row":
        return list(item[1:])
    return [item[1], item[2]] + [term for kind, term in item[3] if kind == "one"]


def rows_in(item):
    """The names that stand behind "row" or "back" in a part or a fact."""
    if item[0] != "row":
        return []
    return [name for kind, name in item[3] if kind != "one"]


def term_names(claim):
    """The names that stand as terms in a claim, rising."""
    terms = []
    for item in claim[0] + claim[1]:
        terms.extend(terms_in(item))
    return sorted(set([term for term in terms if is_name(term)]))


def row_names(claim):
    """The names that stand behind "row" or "back" in a claim, rising."""
    names = []
    for part in claim[0]:
        names.extend(rows_in(part))
    return sorted(set(names))


def claim_names(claim):
    """All names of a claim, rising."""
    return sorted(term_names(claim) + row_names(claim))


def is_known(term, known):
    """Whether a term is a number, or a name that is among the known ones."""
    return is_whole(term) or term in known


def is_tellable(word, known):
    """Whether a stretch of this word can be taken: its row is known, or the stretch tells it."""
    strange = [piece for piece in word if not is_known(piece[1], known)]
    return not strange or (len(word) == 1 and word[0][0] != "one")


def can_take(item, known):
    """Whether a part or a fact can be taken where these names are known."""
    if item[0] == "cell":
        return is_known(item[1], known)
    sides = [is_known(term, known) for term in item[1:3]]
    if item[0] == "same":
        return any(sides)
    if item[0] == "apart":
        return all(sides)
    return all(sides) and is_tellable(item[3], known)


def first_ready(items, known):
    """The index of the first part or fact that can be taken, or None."""
    for k, item in enumerate(items):
        if can_take(item, known):
            return k
    return None


def in_order(claim, names):
    """The parts and facts, each behind those that it needs known, or None where no order does."""
    known = {name: True for name in names}
    waiting = list(claim[0] + claim[1])
    taken = []
    # What is known only grows, so it never does harm to take what can be taken.
    while waiting:
        ready = first_ready(waiting, known)
        if ready is None:
            return None
        item = waiting.pop(ready)
        taken.append(item)
        for term in terms_in(item) + rows_in(item):
            known[term] = True
    return taken


def leads_out(parts, y):
    """Whether one comes from y, by some stretches, to 0 or to the x of a cell."""
    # A stretch whose y no other part has as its x leads nowhere but to itself,
    # so that this asks for such another part, too.
    ends = [part[1] for part in parts if part[0] == "cell"] + [0]
    come_to = [y]
    k = 0
    while k < len(come_to):
        if come_to[k] in ends:
            return True
        for part in parts:
            if part[0] == "row" and part[1] == come_to[k] and part[2] not in come_to:
                come_to.append(part[2])
        k += 1
    return False


def lawful(claim, names):
    """Whether a claim is lawful by these names."""
    if in_order(claim, names) is None:
        return False
    return all([leads_out(claim[0], part[2]) for part in claim[0] if part[0] == "row"])
