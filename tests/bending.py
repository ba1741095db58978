"""Deeds, works and locks that are bent somewhere by chance, and are still such."""

from cellvouch.deeds import is_deed
from cellvouch.works import are_locks, is_work

KINDS = (("worth", "next"), ("row", "back", "one"), ("is", "isn't"), ("same", "apart"))


def places_in(thing, at=()):
    """The places in nested tuples, each told as a tuple of indexes."""
    out = []
    if isinstance(thing, tuple):
        for k, part in enumerate(thing):
            out.append(at + (k,))
            out.extend(places_in(part, at + (k,)))
    return out


def thing_at(thing, at):
    for k in at:
        thing = thing[k]
    return thing


def with_thing(thing, at, other):
    if not at:
        return other
    return thing[:at[0]] + (with_thing(thing[at[0]], at[1:], other),) + thing[at[0] + 1:]


def short_names(thing):
    """The names of up to two letters in nested tuples."""
    found = [thing_at(thing, at) for at in places_in(thing)]
    return sorted({name for name in found if isinstance(name, str) and 1 <= len(name) <= 2 and name.isalpha()})


def bent_tuple(any_of, thing):
    """A tuple with a part less, or twice, or two that have changed places."""
    k, draw = any_of.randrange(len(thing)), any_of.random()
    if draw < 0.4:
        return thing[:k] + thing[k + 1:]
    if draw < 0.6:
        return thing[:k] + (thing[k],) + thing[k:]
    m, parts = any_of.randrange(len(thing)), list(thing)
    parts[k], parts[m] = parts[m], parts[k]
    return tuple(parts)


def bent_thing(any_of, thing, names):
    if isinstance(thing, tuple):
        return bent_tuple(any_of, thing) if thing else thing
    for kinds in KINDS:
        if thing in kinds:
            return any_of.choice(kinds)
    return any_of.choice(names + [0, 1, 2])


def bent(any_of, some, is_right=is_deed):
    """A deed of the same name that is bent in one place."""
    places = [at for at in places_in(some) if at != (0,)]
    names = short_names(some[1:])
    for _ in range(60):
        at = any_of.choice(places)
        made = with_thing(some, at, bent_thing(any_of, thing_at(some, at), names))
        if made != some and is_right(made):
            return made
    return some


def bent_work(any_of, some):
    """A work of the same name that is bent in one place."""
    return bent(any_of, some, is_work)


def bent_locks(any_of, locks):
    """Locks of the same names of which one claim is bent in one place."""
    for _ in range(60):
        k = any_of.randrange(len(locks))
        name, claim = locks[k]
        at = any_of.choice(places_in(claim))
        made = with_thing(claim, at, bent_thing(any_of, thing_at(claim, at), short_names(claim)))
        other = locks[:k] + [(name, made)] + locks[k + 1:]
        if made != claim and are_locks(other):
            return other
    return locks
