"""The rows of deeds: of what each kind is built (point 8 of the document)."""

from cellvouch.claims import is_claim
from cellvouch.words import is_name, is_term

MOST_TOGETHER = 3
MOST_ROWS = 24
FIELDS = ("worth", "next")
TESTS = ("is", "isn't")

# What stands behind the kind of a row, place by place: "sets" is a name that
# the row sets, "outs" are several; "term" and "terms" are what it reads. One
# table, so that each walk over rows looks for places and not for kinds.
FORMS = {
    "set": ("sets", "term"),
    "new": ("sets", "term", "term"),
    "free": ("term",),
    "get": ("sets", "term", "field"),
    "put": ("term", "field", "term"),
    "if": ("term", "test", "term", "rows", "rows"),
    "while": ("term", "test", "term", "claim", "claim", "rows"),
    "call": ("outs", "name", "terms"),
}


def are_names(thing):
    """Whether thing is a tuple of at most three unlike names."""
    if not isinstance(thing, tuple) or len(thing) > MOST_TOGETHER:
        return False
    return all([is_name(name) for name in thing]) and len(set(thing)) == len(thing)


def are_terms(thing):
    """Whether thing is a tuple of at most three terms."""
    if not isinstance(thing, tuple) or len(thing) > MOST_TOGETHER:
        return False
    return all([is_term(term) for term in thing])


def fits(slot, thing, room):
    """Whether thing may stand in such a place of a row."""
    if slot == "rows":
        return are_rows(thing, room)
    if slot == "term":
        return is_term(thing)
    if slot == "terms":
        return are_terms(thing)
    if slot == "outs":
        return are_names(thing)
    if slot == "claim":
        return is_claim(thing)
    if slot == "field":
        return thing in FIELDS
    if slot == "test":
        return thing in TESTS
    return is_name(thing)


def is_row(thing, room):
    """Whether thing is a row: with those in it, at most room rows within one another."""
    if not isinstance(thing, tuple) or not thing or not isinstance(thing[0], str):
        return False
    if room == 0 or thing[0] not in FORMS:
        return False
    form = FORMS[thing[0]]
    if len(thing) != len(form) + 1:
        return False
    return all([fits(slot, part, room - 1) for slot, part in zip(form, thing[1:])])


def are_rows(thing, room):
    """Whether thing is a tuple of rows, at most room of them within one another."""
    if not isinstance(thing, tuple) or len(thing) > MOST_ROWS:
        return False
    return all([is_row(row, room) for row in thing])


def in_slots(row, slot):
    """What stands in the places of this kind in a row."""
    form = FORMS[row[0]]
    return [part for kind, part in zip(form, row[1:]) if kind == slot]


def all_rows(rows):
    """These rows and those in them, as they are numbered."""
    out = []
    for row in rows:
        out.append(row)
        for inner in in_slots(row, "rows"):
            out.extend(all_rows(inner))
    return out


def together(row, single, several):
    """What stands in the places of one kind, and within those of the other one."""
    out = in_slots(row, single)
    for things in in_slots(row, several):
        out.extend(things)
    return out


def names_set(row):
    """The names that a row itself sets."""
    return together(row, "sets", "outs")


def terms_read(row):
    """The terms that a row itself reads."""
    return together(row, "term", "terms")
