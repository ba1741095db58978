"""Verdicts of works: whether a work keeps what it claims (point 33 of the document)."""

from cellvouch.deeds import by_name
from cellvouch.rows import all_rows
from cellvouch.verdicts import first_absent, first_failing


def locks_of(work):
    """The names of the locks that a work holds, as its rows are numbered."""
    return [row[1] for row in all_rows(work[5]) if row[0] == "hold"]


def verdict_of(works, locks, work):
    """The verdict of a work among works by their names and claims of locks by theirs."""
    name = first_absent(works, work)
    if name is not None:
        return ("absent", name)
    for lock in locks_of(work):
        if lock not in locks:
            return ("unlocked", lock)
    return first_failing(works, locks, work)


def judged(works, locks, name):
    """The verdict of a work in a list of works and a list of locks."""
    works = by_name(works)
    return verdict_of(works, dict(locks), works[name])
