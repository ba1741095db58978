"""What holds of a claim in all heaps (point 17 of the document)."""

from cellvouch.cases import Case
from cellvouch.claims import row_names, term_names
from cellvouch.fitting import brought, met, number_for, row_for
from cellvouch.meeting import Fails
from cellvouch.models import Model, numbers_in


def free_worths(case, numbers, rows):
    """Worths of these names of which nothing is known."""
    worths = {}
    for name in numbers:
        number_for(case, name, worths)
    for name in rows:
        row_for(case, name, worths)
    return worths


def laid_out(claim):
    """A case whose heap is the claim, its blocks and worths; None for the blocks where no heap is the claim."""
    case = Case()
    worths = free_worths(case, term_names(claim), row_names(claim))
    return case, brought(case, claim, dict(worths)), worths


def told_of(case, blocks, worths, claims):
    """A heap and worths of which all is true that is known."""
    model = Model(case, numbers_in(claims))
    return model.as_heap(blocks), model.as_worths(worths)


def can_be(claim):
    """A heap that is the claim, and the worths by which it is; None where no heap is."""
    case, blocks, worths = laid_out(claim)
    return None if blocks is None else told_of(case, blocks, worths, claim)


def within(claim, other, *, whole=False):
    """A heap that is the claim, and the worths, of which no part (or, whole: not all) is the other claim; or None."""
    case, blocks, worths = laid_out(claim)
    if blocks is None:
        return None
    try:
        met(case, other, worths, whole)
    except Fails as found:
        return told_of(found.case, blocks, worths, (claim, other))
    return None
