"""Deeds, their locals and their ghosts (points 8 and 9 of the document)."""

from cellvouch.claims import claim_names, is_claim, lawful, row_names, term_names
from cellvouch.rows import DEED_KINDS, all_rows, are_names, are_rows, calls_in, in_slots, names_set, terms_read
from cellvouch.words import is_name, is_whole

# How many rows stand within one another at most: in deeds, and in works.
DEED_DEEP = 3
WORK_DEEP = 5
MOST_FORKS = 4
MOST_CALLS = 6
MOST_HOLDS = 3


def has_form(thing, kinds, deep):
    """Whether thing is built as a deed of such rows, so deep within one another, whatever its names stand for."""
    if not isinstance(thing, tuple) or len(thing) != 6:
        return False
    name, takes, tells, ahead, behind, rows = thing
    if not is_name(name) or not are_names(takes) or not are_names(tells):
        return False
    return is_claim(ahead) and is_claim(behind) and are_rows(rows, kinds, deep)


def keeps_limits(deed):
    """Whether a deed, or a work, has no more ifs, loops, calls, boths and holds than it may."""
    kinds = [row[0] for row in all_rows(deed[5])]
    if kinds.count("call") + kinds.count("both") > MOST_CALLS or kinds.count("hold") > MOST_HOLDS:
        return False
    return kinds.count("if") + kinds.count("while") <= MOST_FORKS


def keeps_names(deed):
    """Whether the rows of a deed set and read only what they may."""
    takes, own = deed[1], locals_of(deed)
    if [name for name in own if name in takes]:
        return False
    for row in all_rows(deed[5]):
        for term in terms_read(row):
            if not is_whole(term) and term not in takes and term not in own:
                return False
    return True


def claims_of(deed):
    """All claims of a deed, those of its loops among them."""
    claims = [deed[3], deed[4]]
    for row in all_rows(deed[5]):
        claims.extend(in_slots(row, "claim"))
    return claims


def keeps_kinds(deed):
    """Whether no name of a deed stands for a number in one place and for a row in another."""
    numbers, rows = list(deed[1]) + locals_of(deed), []
    for claim in claims_of(deed):
        numbers.extend(term_names(claim))
        rows.extend(row_names(claim))
    return not [name for name in rows if name in numbers]


def is_rooted(deed):
    """Whether both claims of a deed are lawful, and name just those locals that they may."""
    takes, tells, ahead, behind = deed[1:5]
    ghosts, own = ghosts_of(deed), locals_of(deed)
    if [name for name in ghosts if name in own]:
        return False
    if [name for name in claim_names(behind) if name in own and name not in tells]:
        return False
    return lawful(ahead, list(takes)) and lawful(behind, list(takes) + ghosts + list(tells))


def with_ghosts(ahead, known):
    """What is known within a loop: what is known around it, and its own ghosts."""
    return known + [name for name in claim_names(ahead) if name not in known]


def are_loops_rooted(rows, known):
    """Whether the claims of all loops in these rows are lawful; known are the names around."""
    for row in rows:
        inside = known
        if row[0] == "while":
            ahead, behind = in_slots(row, "claim")
            inside = with_ghosts(ahead, known)
            if not lawful(ahead, known) or not lawful(behind, inside):
                return False
        if not all([are_loops_rooted(inner, inside) for inner in in_slots(row, "rows")]):
            return False
    return True


def is_made_of(thing, kinds, deep):
    """Whether thing is a deed but that it is made of rows of these kinds, so deep within one another."""
    if not has_form(thing, kinds, deep) or not keeps_limits(thing):
        return False
    if not keeps_names(thing) or not keeps_kinds(thing) or not is_rooted(thing):
        return False
    return are_loops_rooted(thing[5], list(thing[1]) + ghosts_of(thing) + locals_of(thing))


def is_deed(thing):
    """Whether thing, which may be anything, is a deed."""
    return is_made_of(thing, DEED_KINDS, DEED_DEEP)


def locals_of(deed):
    """The names that the rows of a deed set, and those that it tells, rising."""
    names = list(deed[2])
    for row in all_rows(deed[5]):
        names.extend(names_set(row))
    return sorted(set(names))


def ghosts_of(deed):
    """The names of the claim ahead of a deed that aren't takes, rising."""
    return [name for name in claim_names(deed[3]) if name not in deed[1]]


def rows_of(deed):
    """How many rows a deed has, those within others among them."""
    return len(all_rows(deed[5]))


def names_called(deed):
    """The names that a deed's calls and boths name, as its rows are numbered."""
    names = []
    for row in all_rows(deed[5]):
        names.extend([call[1] for call in calls_in(row)])
    return names


def by_name(deeds):
    """A dict from the names of deeds to the deeds."""
    return {deed[0]: deed for deed in deeds}


def is_there(deeds, call):
    """Whether what is called by a triple (outs, name, terms) is in such a dict, and takes and tells as many."""
    outs, name, terms = call
    if name not in deeds:
        return False
    takes, tells = deeds[name][1:3]
    return len(takes) == len(terms) and len(tells) == len(outs)
