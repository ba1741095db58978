"""The order in which locks are taken, or a ring of them (point 34 of the document)."""

from cellvouch.deeds import by_name, is_there
from cellvouch.rows import all_rows, calls_in


def called_from(works, row):
    """The names of the works that a row calls and that are there."""
    return [call[1] for call in calls_in(row) if is_there(works, call)]


def reached(works, name):
    """The names of a work and of all works that it calls, however far."""
    found = [name]
    k = 0
    while k < len(found):
        for row in all_rows(works[found[k]][5]):
            for other in called_from(works, row):
                if other not in found:
                    found.append(other)
        k += 1
    return found


def held_in(work):
    """The names of the locks of which a work itself has holds."""
    return [row[1] for row in all_rows(work[5]) if row[0] == "hold"]


def taken_by(works, locks, name):
    """The locks of the list that a work may take, rising."""
    held = []
    for other in reached(works, name):
        held.extend(held_in(works[other]))
    return tuple(sorted([lock for lock, _ in locks if lock in held]))


def may_take(works, locks):
    """A dict from the name of each work to the locks that it may take."""
    works = by_name(works)
    return {name: taken_by(works, locks, name) for name in works}


def row_at(works, place):
    """The row at a place, which is the name of a work and the number of the row."""
    return all_rows(works[place[0]][5])[place[1]]


def next_places(works, chain):
    """The places that may stand behind a chain: within the hold that it is, or in what its last row calls."""
    name, here = chain[-1]
    row = row_at(works, chain[-1])
    if len(chain) == 1:
        return [(name, here + 1 + k) for k in range(len(all_rows(row[2])))]
    places = []
    for other in called_from(works, row):
        places.extend([(other, k) for k in range(len(all_rows(works[other][5])))])
    return places


def chains_from(works, start):
    """A dict from locks to chains: the shortest ones from a hold to those within it."""
    chains, seen, going = {}, {}, [(start,)]
    while going:
        chain = going.pop(0)
        for place in next_places(works, chain):
            row = row_at(works, place)
            if row[0] == "hold":
                chains.setdefault(row[1], chain + (place,))
            elif calls_in(row) and place not in seen:
                seen[place] = True
                going.append(chain + (place,))
    return chains


def all_chains(works, names):
    """A dict from pairs of locks to chains, where the other one may be taken within a hold of the first."""
    found = {}
    for name in works:
        for here, row in enumerate(all_rows(works[name][5])):
            if row[0] == "hold" and row[1] in names:
                chains = chains_from(works, (name, here))
                for other in names:
                    if other in chains:
                        found.setdefault((row[1], other), chains[other])
    return found


def ring_from(way, names, chains):
    """A ring that begins with these locks, each of which may be taken within the one before; or None."""
    if (way[-1], way[0]) in chains:
        return way
    for name in names:
        if name not in way and (way[-1], name) in chains:
            ring = ring_from(way + (name,), names, chains)
            if ring is not None:
                return ring
    return None


def ordered(names, chains):
    """All locks, each ahead of those that may be taken within it, where there is no ring."""
    left, order = list(names), ()
    while left:
        free = [name for name in left if not [other for other in left if (other, name) in chains]]
        order = order + (free[0],)
        left.remove(free[0])
    return order


def order_or_ring(works, locks):
    """An order of all locks, or else a ring."""
    names = [name for name, _ in locks]
    chains = all_chains(by_name(works), names)
    for name in names:
        ring = ring_from((name,), names, chains)
        if ring is not None:
            after = ring[1:] + ring[:1]
            return ("ring", tuple([(lock, chains[(lock, other)]) for lock, other in zip(ring, after)]))
    return ("order", ordered(names, chains))
