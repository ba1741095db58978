"""Verdicts: whether a deed keeps what it claims (point 18 of the document)."""

from cellvouch.deeds import by_name, is_there
from cellvouch.loose import pieces
from cellvouch.paths import failing
from cellvouch.rows import all_rows, calls_in


def first_absent(deeds, deed):
    """The first name, by its rows, that a deed calls and that isn't there; or None."""
    for row in all_rows(deed[5]):
        for call in calls_in(row):
            if not is_there(deeds, call):
                return call[1]
    return None


def first_failing(deeds, locks, deed):
    """The verdict of a deed by its loose runs alone: None, or one that fails."""
    for number in range(pieces(deed)):
        told = failing(deeds, locks, deed, number)
        if told is not None:
            return ("loose", told)
    return None


def looked_at(deeds, deed):
    """The verdict of a deed among deeds by their names."""
    name = first_absent(deeds, deed)
    if name is not None:
        return ("absent", name)
    return first_failing(deeds, {}, deed)


def verdict(deeds, name):
    """The verdict of a deed in a list of deeds."""
    deeds = by_name(deeds)
    return looked_at(deeds, deeds[name])
