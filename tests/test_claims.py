"""Points 5 and 6: claims, and by which names they are lawful."""

import itertools
import random
import unittest

from cellvouch.claims import is_claim, lawful
from tests.samples import NAMES, NO_TERMS, STRANGE, WHOLE_NUMBERS, back, cell, claim, one, row, stretch


def bent(item, k, thing):
    """The item with another thing in its k-th place."""
    return item[:k] + (thing,) + item[k + 1:]


class IsClaim(unittest.TestCase):

    def holds(self, *things):
        for thing in things:
            self.assertIs(is_claim(thing), True, thing)

    def fails(self, *things):
        for thing in things:
            self.assertIs(is_claim(thing), False, thing)

    def test_many_parts(self):
        parts = tuple([cell(k, 0, 0) for k in range(1, 7)])
        self.holds(((), ()), (parts[:1], ()), (parts[:5], ()))
        self.fails((parts, ()), (parts[:1] * 2000, ()))

    def test_many_facts(self):
        facts = (("same", 1, "a"),) * 5
        self.holds(((), facts[:1]), ((), facts[:4]), ((cell(1, 2, 3),) * 5, facts[:4]))
        self.fails(((), facts))

    def test_terms_of_each_part_and_fact(self):
        items = (cell("x", "v", "n"), stretch("x", "y"), ("same", "s", "t"), ("apart", "s", "t"))
        for item, places in zip(items, ((1, 2, 3), (1, 2), (1, 2), (1, 2))):
            for k in places:
                self.holds(*[claim(bent(item, k, term)) for term in WHOLE_NUMBERS + NAMES])
                self.fails(*[claim(bent(item, k, term)) for term in NO_TERMS])

    def test_words_of_stretches(self):
        self.holds(claim(stretch("x", "y", *[row("r")] * 6)), claim(stretch("x", "y", one("x"), back("r"))))
        for word in ([], [row("r")], (row("r"),) * 7, row("r"), (("row", 1),), (one(True),), None, "r", ((),)):
            self.fails(claim(("row", "x", "y", word)))

    def test_bent_parts(self):
        self.fails(((("cell", 1, 2),), ()), ((("cell", 1, 2, 3, 4),), ()), ((["cell", 1, 2, 3],), ()))
        self.fails((([], ), ()), (((),), ()), ((("Cell", 1, 2, 3),), ()), ((("row", 1, 2),), ()), (("cell",), ()))
        self.fails(*[(((kind, "x", 0, ()),), ()) for kind in ("", "Row", "rows", "cell", "same", None, 0, ["row"],
                                                              ("row",))])
        self.fails((((["cell"], 1, 2, 3),), ()), ((("row", 1, 2, (), ()),), ()), ((cell(1, 2, 3), None), ()))

    def test_bent_facts(self):
        self.fails(((), (("same", 1),)), ((), (("same", 1, 2, 3),)), ((), (["same", 1, 2],)), ((), (("is", 1, 2),)))
        self.fails(((), ((),)), ((), (None,)), ((), ("same",)), ((), ((("same",), 1, 2),)))

    def test_parts_and_facts_in_each_others_place(self):
        self.fails(((("same", 1, 2),), ()), ((), (cell(1, 2, 3),)), ((), (stretch(1, 2),)))

    def test_lists_for_tuples(self):
        self.fails([(), ()], ([], ()), ((), []), ([cell(1, 2, 3)], ()), ((), [("same", 1, 2)]))

    def test_number_of_halves(self):
        self.fails((), ((),), ((), (), ()))

    def test_names_that_stand_as_a_term_and_in_a_word(self):
        for piece in (row("a"), back("a")):
            self.fails(claim(cell("a", 1, 2), stretch("x", 0, piece)))
            self.fails(claim(cell(1, "a", 2), stretch("x", 0, piece)))
            self.fails(claim(cell(1, 2, "a"), stretch("x", 0, piece)))
            self.fails(claim(stretch("a", 0, piece)), claim(stretch("x", "a", piece)))
            self.fails(claim(stretch("x", 0, one("a"), piece)),
                       claim(stretch("x", 0, one("a")), stretch("y", 0, piece)))
            self.fails(claim(stretch("x", 0, piece), ("same", "a", 1)),
                       claim(stretch("x", 0, piece), ("apart", 1, "a")))
            self.holds(claim(stretch("x", 0, one("b"), piece), cell("x", "b", 1)))

    def test_a_name_in_several_words(self):
        self.holds(claim(stretch("x", 0, row("a"), back("a")), stretch("y", 0, row("a"))))

    def test_anything(self):
        self.fails(*STRANGE)

    def test_by_name(self):
        self.assertIs(is_claim(thing=((), ())), True)


class Lawful(unittest.TestCase):

    def holds(self, one_claim, *names):
        self.assertIs(lawful(one_claim, list(names)), True)

    def fails(self, one_claim, *names):
        self.assertIs(lawful(one_claim, list(names)), False)

    def test_without_parts(self):
        self.holds(claim())
        self.holds(claim(), "a", "b")
        self.holds(claim(("same", 1, 2), ("apart", 1, 1)))
        self.holds(claim(("same", "a", 2)))
        self.fails(claim(("same", "a", "b")))
        self.fails(claim(("apart", "a", 2)))
        self.fails(claim(("same", "a", "a")))

    def test_cells(self):
        self.holds(claim(cell("x", "v", "n")), "x")
        self.holds(claim(cell(4, "v", "n")))
        self.fails(claim(cell("x", "v", "n")), "v", "n")
        self.fails(claim(cell("x", "x", "x")))

    def test_known_by_what_was_taken(self):
        self.holds(claim(cell("x", "v", "n"), cell("n", "w", "m"), cell("w", 0, 0)), "x")
        self.holds(claim(cell("w", 0, 0), cell("n", "w", "m"), cell("x", "v", "n")), "x")
        self.fails(claim(cell("n", "w", "m"), cell("m", "v", "n")), "x")

    def test_same(self):
        self.holds(claim(cell("y", 1, 2), ("same", "x", "y")), "x")
        self.holds(claim(cell("y", 1, 2), ("same", "y", "x")), "x")
        self.holds(claim(("same", "a", "b"), ("same", "b", "c"), ("same", "c", "d"), ("same", "d", 0)))
        self.fails(claim(("same", "a", "b"), ("same", "c", "x")), "x")

    def test_apart(self):
        self.holds(claim(("apart", "a", "b")), "a", "b")
        self.holds(claim(("apart", "v", "x"), cell("x", "v", 0)), "x")
        self.fails(claim(("apart", "a", "b")), "a")
        self.fails(claim(("apart", "b", "a")), "a")

    def test_stretches(self):
        self.holds(claim(stretch("x", 0, row("r"))), "x")
        self.holds(claim(stretch("x", 0, back("r"))), "x")
        self.holds(claim(stretch("x", 0)), "x")
        self.fails(claim(stretch("x", 0, row("r"))))
        self.fails(claim(stretch("x", 0)), "y")

    def test_ends_have_to_be_known(self):
        self.fails(claim(stretch("x", "y", row("r")), cell("y", 1, 2)), "x")
        self.holds(claim(stretch("x", "y", row("r")), cell("y", 1, 2)), "x", "y")
        self.holds(claim(stretch("x", "y", row("r")), cell("y", 1, 2), cell("z", 0, "y")), "x", "z")

    def test_words(self):
        self.holds(claim(stretch("x", 0, row("r"), one("a"), back("r"))), "x", "r", "a")
        self.fails(claim(stretch("x", 0, row("r"), one("a"))), "x", "r")
        self.fails(claim(stretch("x", 0, row("r"), row("s"))), "x", "r")
        self.fails(claim(stretch("x", 0, row("r"), row("r"))), "x")
        self.fails(claim(stretch("x", 0, one("a"))), "x")
        self.holds(claim(stretch("x", 0, one("a"))), "x", "a")
        self.holds(claim(stretch("x", 0, one(3))), "x")

    def test_words_told_elsewhere(self):
        self.holds(claim(stretch("x", 0, row("r"), row("s")), stretch("y", 0, row("r")), stretch("z", 0, back("s"))),
                   "x", "y", "z")
        self.holds(claim(stretch("x", 0, row("r"), one("v")), stretch("y", 0, row("r")), cell("z", "v", 0)),
                   "x", "y", "z")
        self.holds(claim(stretch("x", 0, row("r")), stretch("y", 0, back("r"))), "x", "y")

    def test_where_a_stretch_ends(self):
        names = ("x", "y", "z")
        self.fails(claim(stretch("x", "y", row("r"))), *names)
        self.fails(claim(stretch("x", "x", row("r"))), *names)
        self.fails(claim(stretch("x", 7, row("r"))), *names)
        self.holds(claim(stretch("x", 7, row("r")), cell(7, 0, 0)), *names)
        self.holds(claim(stretch("x", 7, row("r")), stretch(7, 0, row("s"))), *names)
        self.fails(claim(stretch("x", 7, row("r")), cell(8, 7, 7)), *names)
        self.holds(claim(stretch("x", "y", row("r")), stretch("y", 0, row("s"))), *names)
        self.fails(claim(stretch("x", "y", row("r")), cell("z", 0, "y")), *names)
        self.fails(claim(stretch("x", "y", row("r")), cell("z", 0, 0), ("same", "y", 0)), *names)
        self.fails(claim(stretch("x", "y", row("r")), cell("z", 0, 0), ("same", "y", "z")), *names)

    def test_the_x_of_another_part(self):
        self.holds(claim(stretch("x", "x", row("r")), cell("x", 0, 0)), "x")
        self.holds(claim(stretch("x", "x", row("r")), stretch("x", 0)), "x")
        self.fails(claim(stretch("x", "x"), stretch("x", "x")), "x")

    def test_rings(self):
        ring = (stretch("x", "y", row("r")), stretch("y", "z", row("s")), stretch("z", "x", row("t")))
        self.fails(claim(*ring), "x", "y", "z")
        self.holds(claim(*ring, cell("y", 0, 0)), "x", "y", "z")
        self.holds(claim(*ring, stretch("z", 0)), "x", "y", "z")
        self.fails(claim(*ring, cell("w", 0, "x")), "x", "y", "z", "w")
        self.fails(claim(stretch("w", 0), *ring), "x", "y", "z", "w")

    def test_in_every_order(self):
        parts = (stretch("n", "m", row("r")), cell("x", "v", "n"), cell("m", "w", 0),
                 stretch("v", 0, row("r"), one("m")))
        facts = (("same", "m", "k"), ("same", 5, "k"), ("apart", "k", "w"))
        for some in itertools.permutations(parts):
            self.assertTrue(is_claim((some, facts)))
            self.holds((some, facts), "x")
            self.fails((some, facts[:1] + facts[2:]), "x")
        for some in itertools.permutations(facts):
            self.holds((parts, some), "x")

    def test_names_that_it_has_not(self):
        self.holds(claim(cell("x", 0, 0)), "x", "y", "z", "r")

    def test_leaves_what_it_gets(self):
        names = ["x"]
        self.assertTrue(lawful(claim(cell("x", "v", "n")), names))
        self.assertEqual(names, ["x"])

    def test_by_name(self):
        self.assertIs(lawful(claim=claim(), names=[]), True)


def taken(item, known):
    """What is known behind an item that is taken, or None; read off point 6."""
    def is_so(term):
        return isinstance(term, int) or term in known
    kind = item[0]
    behind = known | {term for term in item[1:] if isinstance(term, str)}
    if kind == "cell":
        return behind if is_so(item[1]) else None
    if kind == "same":
        return behind if is_so(item[1]) or is_so(item[2]) else None
    if kind == "apart":
        return behind if is_so(item[1]) and is_so(item[2]) else None
    if not is_so(item[1]) or not is_so(item[2]):
        return None
    word = item[3]
    if all(is_so(piece[1]) for piece in word):
        return behind
    if len(word) == 1 and word[0][0] in ("row", "back"):
        return behind | {word[0][1]}
    return None


def comes_out(parts, y, left):
    """Whether at most so many stretches lead from y to 0 or to a cell."""
    if y == 0 or [part for part in parts if part[0] == "cell" and part[1] == y]:
        return True
    if left == 0:
        return False
    return any(comes_out(parts, part[2], left - 1) for part in parts if part[0] == "row" and part[1] == y)


def by_the_words(some, names):
    """Whether a claim is lawful, by going through all orders."""
    parts, facts = some
    for k, part in enumerate(parts):
        if part[0] == "row":
            others = parts[:k] + parts[k + 1:]
            if part[2] != 0 and part[2] not in [other[1] for other in others]:
                return False
            if not comes_out(parts, part[2], 5):
                return False
    for order in itertools.permutations(parts + facts):
        known = set(names)
        for item in order:
            known = taken(item, known) if known is not None else None
        if known is not None:
            return True
    return False


class AgainstTheWords(unittest.TestCase):

    def test_many_claims(self):
        any_one = random.Random(5)
        seen = {True: 0, False: 0}

        def term():
            return any_one.choice(["x", "y", "v", 0, 0, 1])

        def piece():
            return any_one.choice([row("r"), back("r"), row("s"), one(term())])

        def item():
            kind = any_one.choice(["cell", "row", "row", "same", "apart"])
            if kind == "cell":
                return cell(term(), term(), term())
            if kind == "row":
                return stretch(term(), term(), *[piece() for _ in range(any_one.choice([0, 1, 1, 2]))])
            return (kind, term(), term())

        for _ in range(3000):
            some = claim(*[item() for _ in range(any_one.randint(1, 4))])
            names = any_one.sample(["x", "y", "v", "r", "s"], any_one.randint(0, 3))
            told = lawful(some, names)
            self.assertIs(told, by_the_words(some, names), (some, names))
            seen[told] += 1
        self.assertGreater(min(seen.values()), 300)
