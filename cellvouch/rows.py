"""The rows of deeds and works: of what each kind is built (points 8 and 22 of the document)."""

from cellvouch.claims import is_claim
from cellvouch.words import is_name, is_term

MOST_TOGETHER = 3
MOST_ROWS = 24
FIELDS = ("worth", "next")
TESTS = ("is", "isn't")

# What stands behind the kind of a row, place by place: "sets" is a name that
# the row sets, "outs" are several; "term" and "terms" are what it reads. One
# table, so that each walk over rows looks for places and not for kinds.
FORMS = {
    "set": ("sets", "term"),
    "new": ("sets", "term", "term"),
    "free": ("term",),
    "get": ("sets", "term", "field"),
    "put": ("term", "field", "term"),
    "if": ("term", "test", "term", "rows", "rows"),
    "while": ("term", "test", "term", "claim", "claim", "rows"),
    "call": ("outs", "name", "terms"),
    "both": ("outs", "name", "terms", "outs", "name", "terms"),
    "hold": ("name", "rows"),
}
DEED_KINDS = ("set", "new", "free", "get", "put", "if", "while", "call")
WORK_KINDS = ("set", "new", "free", "get", "put", "if", "while", "call", "both", "hold")


def are_names(thing):
    """Whether thing is a tuple of at most three unlike names."""
    if not isinstance(thing, tuple) or len(thing) > MOST_TOGETHER:
        return False
    return all([is_name(name) for name in thing]) and len(set(thing)) == len(thing)


def are_terms(thing):
    """Whether thing is a tuple of at most three terms."""
    if not isinstance(thing, tuple) or len(thing) > MOST_TOGETHER:
        return False
    return all([is_term(term) for term in thing])


def fits(slot, thing):
    """Whether thing may stand in such a place of a row; rows are looked at one by one elsewhere."""
    if slot == "rows":
        return isinstance(thing, tuple)
    if slot == "term":
        return is_term(thing)
    if slot == "terms":
        return are_terms(thing)
    if slot == "outs":
        return are_names(thing)
    if slot == "claim":
        return is_claim(thing)
    if slot == "field":
        return thing in FIELDS
    if slot == "test":
        return thing in TESTS
    return is_name(thing)


def is_row(thing, kinds):
    """Whether thing is a row of one of these kinds, whatever rows are in it."""
    if not isinstance(thing, tuple) or not thing or not isinstance(thing[0], str):
        return False
    if thing[0] not in kinds:
        return False
    form = FORMS[thing[0]]
    if len(thing) != len(form) + 1:
        return False
    if not all([fits(slot, part) for slot, part in zip(form, thing[1:])]):
        return False
    outs = names_set(thing)
    return len(set(outs)) == len(outs)


def are_rows(thing, kinds, room):
    """Whether thing is a tuple of few enough rows of these kinds, at most room of them within one another."""
    going, many = [(thing, room)], 0
    while going:
        rows, left = going.pop()
        if not isinstance(rows, tuple):
            return False
        # Counted on the way: rows of which each has the same rows in it soon are more than can be gone through.
        many += len(rows)
        if many > MOST_ROWS or (rows and left == 0):
            return False
        for row in rows:
            if not is_row(row, kinds):
                return False
            going.extend([(inner, left - 1) for inner in in_slots(row, "rows")])
    return True


def in_slots(row, slot):
    """What stands in the places of this kind in a row."""
    form = FORMS[row[0]]
    return [part for kind, part in zip(form, row[1:]) if kind == slot]


def all_rows(rows):
    """These rows and those in them, as they are numbered."""
    out = []
    for row in rows:
        out.append(row)
        for inner in in_slots(row, "rows"):
            out.extend(all_rows(inner))
    return out


def together(row, single, several):
    """What stands in the places of one kind, and within those of the other one."""
    out = in_slots(row, single)
    for things in in_slots(row, several):
        out.extend(things)
    return out


def names_set(row):
    """The names that a row itself sets."""
    return together(row, "sets", "outs")


def terms_read(row):
    """The terms that a row itself reads."""
    return together(row, "term", "terms")


def calls_in(row):
    """Triples (outs, name, terms) of what a row itself calls: one for a call, two for a both."""
    if row[0] == "call":
        return [row[1:]]
    return [row[1:4], row[4:7]] if row[0] == "both" else []
