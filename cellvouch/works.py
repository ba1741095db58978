"""Works and lists of locks, and both as texts (points 22 to 24 of the document)."""

from cellvouch.claims import is_claim, lawful
from cellvouch.deeds import WORK_DEEP, is_made_of
from cellvouch.errors import NoText
from cellvouch.rows import WORK_KINDS
from cellvouch.texts import Lines, claim_from, show_claim, show_deed
from cellvouch.words import is_name

MOST_LOCKS = 3


def is_work(thing):
    """Whether thing, which may be anything, is a work."""
    return is_made_of(thing, WORK_KINDS, WORK_DEEP)


def is_lock(thing):
    """Whether thing is a lock."""
    if not isinstance(thing, tuple) or len(thing) != 2:
        return False
    name, claim = thing
    return is_name(name) and is_claim(claim) and lawful(claim, [])


def are_locks(thing):
    """Whether thing, which may be anything, is a list of locks."""
    if not isinstance(thing, list) or len(thing) > MOST_LOCKS:
        return False
    if not all([is_lock(lock) for lock in thing]):
        return False
    return len(set([lock[0] for lock in thing])) == len(thing)


def show_work(work):
    """The text of a work."""
    return show_deed(work)


def read_work(text):
    """The work that a text writes; refused with NoText."""
    work = Lines(text).whole() if isinstance(text, str) else None
    if not is_work(work) or show_work(work) != text:
        raise NoText()
    return work


def show_locks(locks):
    """The text of a list of locks."""
    return "\n".join([f"lock {name} {show_claim(claim)}" for name, claim in locks])


def lock_from(line):
    """What a line writes, taken as a lock."""
    name, _, claim = line.partition(" ")[2].partition(" ")
    return (name, claim_from(claim))


def read_locks(text):
    """The list of locks that a text writes; refused with NoText."""
    if not isinstance(text, str):
        raise NoText()
    locks = [lock_from(line) for line in text.split("\n")] if text else []
    if not are_locks(locks) or show_locks(locks) != text:
        raise NoText()
    return locks
