"""Point 7: heaps, and the walk that finds a claim in one."""

import copy
import itertools
import random
import unittest

from cellvouch.claims import lawful
from cellvouch.heaps import is_heap, walked
from cellvouch.words import row_of
from tests.samples import STRANGE, back, cell, claim, one, row, stretch


def chain(first, worths, end=0, by=1):
    """The cells of a stretch from an address on, each one's address greater by so much."""
    out = []
    for k, worth in enumerate(worths):
        at = first + k * by
        out.append((at, worth, end if k + 1 == len(worths) else at + by))
    return tuple(sorted(out))


class IsHeap(unittest.TestCase):

    def holds(self, *things):
        for thing in things:
            self.assertIs(is_heap(thing), True, thing)

    def fails(self, *things):
        for thing in things:
            self.assertIs(is_heap(thing), False, thing)

    def test_many_cells(self):
        self.holds((), ((1, 0, 0),), ((5, -3, 5),), ((1, 2, 3), (2, 2, 3), (9, 0, -1)), chain(1, range(2000)))

    def test_addresses(self):
        self.fails(((2, 0, 0), (1, 0, 0)), ((1, 0, 0), (3, 0, 0), (2, 0, 0)))
        self.fails(((1, 0, 0), (1, 0, 0)), ((1, 0, 0), (1, 2, 3)))
        self.fails(((0, 0, 0),), ((-1, 0, 0),), ((0, 0, 0), (1, 0, 0)), ((True, 0, 0),), (("a", 0, 0),),
                   ((None, 0, 0),))

    def test_fields(self):
        for thing in (True, False, None, "a", "", (), (1,), [1]):
            self.fails(((1, thing, 0),), ((1, 0, thing),), ((1, 0, 0), (2, 0, thing)))

    def test_number_of_fields(self):
        self.fails(((1, 2),), ((1, 2, 3, 4),), ((),), (1, 2, 3), ((1, 2, 3), ()))

    def test_lists(self):
        self.fails([], [(1, 2, 3)], ([1, 2, 3],), ((1, 2, 3), [2, 2, 3]))

    def test_anything(self):
        self.fails(*[thing for thing in STRANGE if thing != ()])

    def test_by_name(self):
        self.assertIs(is_heap(thing=()), True)


class Walked(unittest.TestCase):

    def test_a_cell(self):
        heap = ((3, 7, 9),)
        self.assertEqual(walked(claim(cell("x", "v", "n")), heap, {"x": 3}), (heap, {"x": 3, "v": 7, "n": 9}))
        self.assertEqual(walked(claim(cell(3, 7, 9)), heap, {}), (heap, {}))
        self.assertEqual(walked(claim(cell("x", "v", "n")), heap, {"x": 3, "n": 9}), (heap, {"x": 3, "v": 7, "n": 9}))

    def test_a_cell_that_is_otherwise(self):
        heap = ((3, 7, 9),)
        self.assertIsNone(walked(claim(cell("x", "v", "n")), heap, {"x": 4}))
        self.assertIsNone(walked(claim(cell("x", "v", "n")), heap, {"x": 3, "v": 8}))
        self.assertIsNone(walked(claim(cell("x", "v", "n")), heap, {"x": 3, "n": 8}))
        self.assertIsNone(walked(claim(cell(3, 7, 8)), heap, {}))
        self.assertIsNone(walked(claim(cell("x", "v", "v")), heap, {"x": 3}))
        self.assertIsNone(walked(claim(cell("x", "x", "n")), heap, {"x": 3}))
        self.assertIsNone(walked(claim(cell("x", 0, 0)), heap, {"x": 0}))

    def test_nothing(self):
        self.assertEqual(walked(claim(), ((1, 2, 3),), {}), ((), {}))
        self.assertEqual(walked(claim(), (), {"a": 1, "r": (2,)}), ((), {"a": 1, "r": (2,)}))

    def test_cells_beside_it(self):
        heap = ((1, 1, 1), (2, 5, 0), (3, 2, 1))
        self.assertEqual(walked(claim(cell(2, "v", 0)), heap, {}), (((2, 5, 0),), {"v": 5}))

    def test_stretches(self):
        some = claim(stretch("x", 0, row("r")))
        self.assertEqual(walked(some, ((1, 2, 3),), {"x": 0}), ((), {"x": 0, "r": ()}))
        self.assertEqual(walked(some, ((1, 2, 0),), {"x": 1}), (((1, 2, 0),), {"x": 1, "r": (2,)}))
        heap = ((1, 10, 5), (2, 0, 0), (3, 30, 0), (5, 50, 3))
        part = ((1, 10, 5), (3, 30, 0), (5, 50, 3))
        self.assertEqual(walked(some, heap, {"x": 1}), (part, {"x": 1, "r": (10, 50, 30)}))

    def test_stretches_the_other_way_about(self):
        heap = ((1, 10, 5), (3, 30, 0), (5, 50, 3))
        told = walked(claim(stretch("x", 0, back("r"))), heap, {"x": 1})
        self.assertEqual(told, (heap, {"x": 1, "r": (30, 50, 10)}))
        self.assertEqual(walked(claim(stretch("x", 0, back("r"))), heap, told[1]), told)
        self.assertIsNone(walked(claim(stretch("x", 0, row("r"))), heap, told[1]))

    def test_a_long_stretch(self):
        heap = chain(1, range(2000))
        part, worths = walked(claim(stretch("x", 0, row("r"))), heap, {"x": 1})
        self.assertEqual((part, worths["r"]), (heap, tuple(range(2000))))
        falling = chain(5000, range(2000), by=-2)
        part, worths = walked(claim(stretch(5000, 0, back("r"))), falling, {})
        self.assertEqual((part, worths), (falling, {"r": tuple(range(2000))[::-1]}))

    def test_a_stretch_ends_where_its_end_is_met_first(self):
        heap = ((1, 5, 2), (2, 6, 3), (3, 7, 2))
        some = claim(stretch("x", "y", row("r")), cell("y", "v", "n"))
        self.assertEqual(walked(some, heap, {"x": 1, "y": 2}),
                         (heap[:2], {"x": 1, "y": 2, "r": (5,), "v": 6, "n": 3}))
        self.assertEqual(walked(some, heap, {"x": 1, "y": 3}),
                         (heap, {"x": 1, "y": 3, "r": (5, 6), "v": 7, "n": 2}))
        self.assertEqual(walked(some, heap, {"x": 2, "y": 2}), (heap[1:2], {"x": 2, "y": 2, "r": (), "v": 6, "n": 3}))

    def test_a_stretch_that_never_ends(self):
        some = claim(stretch("x", 0, row("r")))
        self.assertIsNone(walked(some, ((1, 0, 2), (2, 0, 1)), {"x": 1}))
        self.assertIsNone(walked(some, ((1, 0, 1),), {"x": 1}))
        self.assertIsNone(walked(some, ((1, 0, 2), (2, 0, 3), (3, 0, 2)), {"x": 1}))
        self.assertIsNone(walked(some, ((1, 0, 2),), {"x": 1}))
        self.assertIsNone(walked(some, ((1, 0, -1),), {"x": 1}))
        self.assertIsNone(walked(some, ((1, 0, 0),), {"x": -1}))
        self.assertIsNone(walked(some, chain(1, range(2000), end=500), {"x": 1}))

    def test_an_end_that_is_no_cell(self):
        heap = ((1, 4, 7),)
        some = claim(stretch("x", "y", row("r")), stretch("y", 0, row("s")))
        self.assertIsNone(walked(some, heap, {"x": 1, "y": 7}))
        self.assertIsNone(walked(some, heap, {"x": 7, "y": 7}))
        self.assertEqual(walked(some, ((1, 4, 0),), {"x": 1, "y": 0}),
                         (((1, 4, 0),), {"x": 1, "y": 0, "r": (4,), "s": ()}))

    def test_parts_in_any_order(self):
        heap = ((1, 5, 2), (2, 6, 4), (3, 9, 9), (4, 8, 0))
        parts = (cell("x", "v", "n"), cell("n", "w", "m"), stretch("m", 0, row("r"), one(8)),
                 stretch("e", "n", back("r")))
        facts = (("same", "e", 2), ("apart", "v", "w"))
        for some in itertools.permutations(parts):
            for others in (facts, facts[::-1]):
                told = walked((some, others), heap, {"x": 1})
                worths = {"x": 1, "v": 5, "n": 2, "w": 6, "m": 4, "r": (), "e": 2}
                self.assertEqual(told, (((1, 5, 2), (2, 6, 4), (4, 8, 0)), worths))
        self.assertEqual(list(told[0]), sorted(told[0]))

    def test_words_of_several_pieces(self):
        heap = chain(1, (1, 2, 7, 2, 1))
        some = claim(stretch("x", 0, row("r"), one("a"), back("r")))
        self.assertEqual(walked(some, heap, {"x": 1, "r": (1, 2), "a": 7})[0], heap)
        self.assertIsNone(walked(some, heap, {"x": 1, "r": (1, 2), "a": 8}))
        self.assertIsNone(walked(some, heap, {"x": 1, "r": (2, 1), "a": 7}))
        self.assertIsNone(walked(some, heap, {"x": 1, "r": (1,), "a": 7}))
        self.assertIsNone(walked(some, heap[:4] + ((5, 1, 6), (6, 1, 0)), {"x": 1, "r": (1, 2), "a": 7}))

    def test_words_told_by_another_part(self):
        heap = chain(1, (1, 2, 3)) + chain(11, (3, 2, 1, 1, 2, 3))
        some = claim(stretch("y", 0, back("r"), row("r")), stretch("x", 0, row("r")))
        self.assertEqual(walked(some, heap, {"x": 1, "y": 11}), (heap, {"x": 1, "y": 11, "r": (1, 2, 3)}))
        self.assertIsNone(walked(some, heap, {"x": 11, "y": 1}))

    def test_words_of_none_and_of_known_numbers(self):
        self.assertEqual(walked(claim(stretch("x", 0)), (), {"x": 0}), ((), {"x": 0}))
        self.assertIsNone(walked(claim(stretch("x", 0)), ((1, 2, 0),), {"x": 1}))
        self.assertEqual(walked(claim(stretch("x", 0, one(2))), ((1, 2, 0),), {"x": 1}), (((1, 2, 0),), {"x": 1}))
        self.assertIsNone(walked(claim(stretch("x", 0, one(2))), (), {"x": 0}))

    def test_same(self):
        heap = ((1, 5, 2), (2, 6, 0))
        some = claim(cell("y", "v", "n"), ("same", "x", "y"))
        self.assertEqual(walked(some, heap, {"x": 2}), (((2, 6, 0),), {"x": 2, "y": 2, "v": 6, "n": 0}))
        other = claim(cell("y", "v", "n"), ("same", "y", "x"))
        self.assertEqual(walked(other, heap, {"x": 2}), walked(some, heap, {"x": 2}))
        self.assertEqual(walked(claim(("same", "a", 5)), (), {}), ((), {"a": 5}))
        self.assertIsNone(walked(some, heap, {"x": 2, "y": 1}))
        self.assertIsNone(walked(claim(("same", 1, 2)), heap, {}))
        self.assertEqual(walked(claim(("same", 1, 1)), heap, {}), ((), {}))

    def test_apart(self):
        heap = ((1, 5, 1),)
        self.assertEqual(walked(claim(cell(1, "v", "n"), ("apart", "v", "n")), heap, {}), (heap, {"v": 5, "n": 1}))
        self.assertIsNone(walked(claim(cell(1, "v", "n"), ("apart", "n", 1)), heap, {}))
        self.assertIsNone(walked(claim(("apart", 3, 3)), heap, {}))
        self.assertIsNone(walked(claim(("apart", "a", "b")), heap, {"a": 3, "b": 3}))

    def test_parts_that_share_a_cell(self):
        heap = ((1, 5, 2), (2, 6, 0))
        self.assertIsNone(walked(claim(cell(1, "v", "n"), cell(1, "v", "n")), heap, {}))
        self.assertIsNone(walked(claim(cell(1, "v", "n"), cell("x", "w", "m")), heap, {"x": 1}))
        self.assertIsNone(walked(claim(stretch(1, 0, row("r")), cell(2, "v", "n")), heap, {}))
        self.assertIsNone(walked(claim(cell(2, "v", "n"), stretch(1, 0, row("r"))), heap, {}))
        self.assertIsNone(walked(claim(stretch(1, 0, row("r")), stretch(2, 0, row("s"))), heap, {}))

    def test_other_worths_are_told_too(self):
        told = walked(claim(cell("x", "v", "n")), ((1, 2, 3),), {"x": 1, "q": 9, "s": (4, 5)})
        self.assertEqual(told[1], {"x": 1, "v": 2, "n": 3, "q": 9, "s": (4, 5)})

    def test_what_is_told_is_the_askers_own(self):
        heap, worths = ((1, 2, 0),), {"x": 1}
        before = copy.deepcopy((heap, worths))
        some = claim(stretch("x", 0, row("r")))
        first = walked(some, heap, worths)
        self.assertEqual((heap, worths), before)
        self.assertIsNot(first[1], worths)
        first[1]["r"] = "bent"
        self.assertEqual(walked(some, heap, worths)[1], {"x": 1, "r": (2,)})
        self.assertIsNot(walked(claim(), heap, worths)[1], worths)

    def test_kinds(self):
        part, worths = walked(claim(stretch("x", 0, back("r"))), ((1, 2, 0),), {"x": 1})
        self.assertTrue(is_heap(part))
        self.assertIsInstance(worths, dict)
        self.assertIsInstance(worths["r"], tuple)

    def test_by_name(self):
        self.assertEqual(walked(claim=claim(), heap=(), worths={}), ((), {}))


def is_this(some, cells, worths):
    """Whether a heap is a claim by worths of all its names, read off point 5."""
    def number(term):
        return term if isinstance(term, int) else worths[term]
    parts, facts = some
    for kind, s, t in facts:
        if (number(s) == number(t)) != (kind == "same"):
            return False
    used = []
    for part in parts:
        address = number(part[1])
        if part[0] == "cell":
            if cells.get(address) != (number(part[2]), number(part[3])):
                return False
            used.append(address)
            continue
        for worth in row_of(part[3], worths):
            if address not in cells or cells[address][0] != worth:
                return False
            used.append(address)
            address = cells[address][1]
        if address != number(part[2]):
            return False
    return sorted(used) == sorted(cells)


def all_ways(some, heap, worths):
    """All (part, worths) by which a part of the heap is the claim."""
    names, rows = set(), set()
    for item in some[0] + some[1]:
        for term in item[1:]:
            if isinstance(term, str):
                names.add(term)
            elif isinstance(term, tuple):
                names |= {name for kind, name in term if kind == "one" and isinstance(name, str)}
                rows |= {name for kind, name in term if kind != "one"}
    numbers = {0, 1, 2} | {number for one_cell in heap for number in one_cell}
    numbers |= {worth for worth in worths.values() if isinstance(worth, int)}
    signs = sorted({worth for _, worth, _ in heap})
    some_rows = [()] + [some_row for many in range(1, 5) for some_row in itertools.product(signs, repeat=many)]
    strange = sorted(names - set(worths)), sorted(rows - set(worths))
    out = []
    for many in range(len(heap) + 1):
        for part in itertools.combinations(heap, many):
            cells = {at: (worth, after) for at, worth, after in part}
            for told in itertools.product(sorted(numbers), repeat=len(strange[0])):
                for told_rows in itertools.product(some_rows, repeat=len(strange[1])):
                    all_worths = dict(worths)
                    all_worths.update(zip(strange[0], told))
                    all_worths.update(zip(strange[1], told_rows))
                    if is_this(some, cells, all_worths):
                        out.append((part, all_worths))
    return out


class AgainstTheWords(unittest.TestCase):

    def some_claim(self, any_one):
        def term():
            return any_one.choice(["x", "x", "y", "v", "w", 0, 1, 2])

        def piece():
            return any_one.choice([row("r"), back("r"), one(term()), row("k")])

        def item():
            kind = any_one.choice(["cell", "row", "row", "row", "same", "apart"])
            if kind == "cell":
                return cell(term(), term(), term())
            if kind == "row":
                return stretch(term(), term(), *[piece() for _ in range(any_one.choice([0, 1, 1, 1, 2]))])
            return (kind, term(), term())

        return claim(*[item() for _ in range(any_one.randint(1, 3))])

    def test_many_heaps(self):
        any_one = random.Random(11)
        found = missed = long = 0
        while long < 40:
            some = self.some_claim(any_one)
            worths = {"x": any_one.randint(0, 3), "y": any_one.randint(0, 3)}
            if any_one.random() < 0.3:
                worths["k"] = tuple([any_one.randint(0, 1) for _ in range(any_one.randint(0, 2))])
            if not lawful(some, list(worths)):
                continue
            addresses = sorted(any_one.sample(range(1, 5), any_one.randint(2, 4)))
            heap = tuple([(at, any_one.randint(0, 1), any_one.choice([0, 1, 2, 3, 4])) for at in addresses])
            ways = all_ways(some, heap, worths)
            self.assertLessEqual(len(ways), 1, (some, heap, worths))
            self.assertEqual(walked(some, heap, worths), ways[0] if ways else None, (some, heap, worths))
            found += len(ways)
            missed += not ways
            long += len(ways) == 1 and len(ways[0][0]) >= 2
        self.assertGreater(min(found, missed), 100)
