"""Loose runs of works, played (points 31 and 32 of the document)."""

from cellvouch.deeds import by_name
from cellvouch.loose import NO_RUN, play_told


def played_work(works, locks, name, told):
    """How a told loose run of a work fails, or that it is good; None where it is none."""
    ends = play_told(by_name(works), dict(locks), name, told)
    if ends is None:
        return ("good",)
    return None if ends == NO_RUN else ends
