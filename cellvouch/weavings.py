"""Weavings: works done by several hands under a schedule (points 25 to 27 of the document)."""

from cellvouch.hands import Weaving


def stopped(weaving, steps):
    """What ends a weaving ahead of a further step, where no more than so many may be done; or None."""
    told = weaving.outcome()
    return ("steps",) if told is None and len(weaving.log) == steps else told


def next_number(weaving, schedule):
    """The number of a schedule that chooses the next hand."""
    done = len(weaving.log)
    return schedule[done] if done < len(schedule) else 0


def go_through(weaving, schedule, steps):
    """Do all steps of a weaving; told is its outcome."""
    told = stopped(weaving, steps)
    while told is None:
        weaving.go(next_number(weaving, schedule))
        told = stopped(weaving, steps)
    return told


def woven(works, locks, name, numbers, heap, *, schedule=(), places=(), steps=1000):
    """The outcome of a weaving, its log, and the stacks of a race or a stillness."""
    weaving = Weaving(works, locks, heap, places)
    weaving.begin(name, numbers)
    told = go_through(weaving, schedule, steps)
    stacks = ()
    if told[0] in ("race", "still"):
        stacks = tuple([hand.stack() for hand in weaving.concerned()])
    return told, tuple(weaving.log), stacks


def weave(works, locks, name, numbers, heap, *, schedule=(), places=(), steps=1000):
    """The outcome of a weaving."""
    return woven(works, locks, name, numbers, heap, schedule=schedule, places=places, steps=steps)[0]
