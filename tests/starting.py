"""Heaps with which guarded weavings can begin, drawn by chance."""

from tests.second import Chance, Dead, heap_from


def drawn_start(work, locks, any_of, numbers=(0, 0, 0, 1, 4, 5, 6, 7, 8, 9, 10, 11)):
    """Numbers for the takes, and a heap with a part for the work and for each lock, and a rest; or Dead."""
    for _ in range(400):
        chance = Chance(any_of.random(), numbers, longest=3)
        worths, cells = {name: chance.number() for name in work[1]}, {}
        try:
            for _, claim in locks:
                cells.update(chance.lay(claim, {}, cells))
            cells.update(chance.lay(work[3], worths, cells))
        except Dead:
            continue
        for _ in range(chance.any.randint(0, 3)):
            cells[chance.address(cells)] = (chance.number(), chance.number())
        return tuple([worths[name] for name in work[1]]), heap_from(cells)
    raise Dead()
