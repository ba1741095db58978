"""Point 19: claims that are found."""

import random
import unittest

from cellvouch.claims import claim_names, lawful, row_names
from cellvouch.deeds import is_deed, locals_of
from cellvouch.errors import NoNeed
from cellvouch.found import find_claims
from cellvouch.machine import run
from cellvouch.texts import read_deed, show_claim
from cellvouch.verdicts import verdict
from tests.samples import NOTHING, deed


def rows_from(lines):
    """The rows that lines write."""
    rows = []
    for line in lines:
        words = [int(word) if word.lstrip("-").isdigit() else word for word in line.split()]
        rows.append(tuple(words))
    return tuple(rows)


class FoundTest(unittest.TestCase):

    def found(self, takes, tells, *lines):
        """The claims that are found; the verdict lets the deed by."""
        takes, tells, rows = tuple(takes.split()), tuple(tells.split()), rows_from(lines)
        return self.check(takes, tells, rows)

    def check(self, takes, tells, rows):
        ahead, behind = find_claims(takes, tells, rows)
        some = deed("d", takes, tells, ahead, behind, rows)
        self.assertTrue(is_deed(some), some)
        self.assertIsNone(verdict([some], "d"), some)
        self.check_ahead(ahead, takes, locals_of(some))
        return ahead, behind

    def check_ahead(self, ahead, takes, own):
        """Cells alone, at unlike addresses, with names of their own."""
        parts, facts = ahead
        self.assertEqual(facts, ())
        self.assertEqual([part[0] for part in parts], ["cell"] * len(parts))
        self.assertEqual(len({part[1] for part in parts}), len(parts))
        names = [name for part in parts for name in part[2:]]
        self.assertEqual(len(set(names)), len(names))
        for name in names:
            self.assertIsInstance(name, str)
            self.assertNotIn(name, takes)
            self.assertNotIn(name, own)

    def refused(self, row, takes, tells, *lines):
        with self.assertRaises(NoNeed) as caught:
            find_claims(tuple(takes.split()), tuple(tells.split()), rows_from(lines))
        self.assertEqual(caught.exception.row, row)
        if row is not None:
            self.assertNotIsInstance(caught.exception.row, bool)


class Rows(FoundTest):

    def test_none(self):
        self.assertEqual(self.found("", ""), (NOTHING, NOTHING))
        self.assertEqual(self.found("x y", ""), (NOTHING, NOTHING))

    def test_set(self):
        self.assertEqual(self.found("x", "", "set a x", "set b 5"), (NOTHING, NOTHING))
        self.assertEqual(self.found("x", "a b", "set a x", "set b 5"),
                         (NOTHING, ((), (("same", "a", "x"), ("same", "b", 5)))))

    def test_tells_that_are_never_set(self):
        self.assertEqual(self.found("", "a b"), (NOTHING, ((), (("same", "a", 0), ("same", "b", 0)))))

    def test_get(self):
        for field in ("worth", "next"):
            ahead, behind = self.found("x", "a", f"get a x {field}")
            ((_, x, v, n),) = ahead[0]
            self.assertEqual(x, "x")
            self.assertEqual(behind, (ahead[0], (("same", "a", v if field == "worth" else n),)))

    def test_put(self):
        ahead, behind = self.found("x y", "", "put x worth y", "put x worth 3")
        ((_, x, _, n),) = ahead[0]
        self.assertEqual((x, behind), ("x", ((("cell", "x", 3, n),), ())))
        ahead, behind = self.found("x y", "", "put x next y")
        self.assertEqual(behind, ((("cell", "x", ahead[0][0][2], "y"),), ()))

    def test_free(self):
        ahead, behind = self.found("x", "", "free x")
        self.assertEqual((len(ahead[0]), behind), (1, NOTHING))

    def test_new(self):
        self.assertEqual(self.found("x", "a", "new a x 4"), (NOTHING, ((("cell", "a", "x", 4),), ())))
        self.assertEqual(self.found("", "a", "new a a a"), (NOTHING, ((("cell", "a", 0, 0),), ())))

    def test_a_cell_that_is_made_and_read_and_written(self):
        ahead, behind = self.found("x", "a b", "new a 1 2", "put a next x", "get b a worth", "put a worth 9")
        self.assertEqual((ahead, behind), (NOTHING, ((("cell", "a", 9, "x"),), (("same", "b", 1),))))

    def test_a_cell_that_is_made_and_freed(self):
        self.assertEqual(self.found("", "", "new a 1 2", "free a"), (NOTHING, NOTHING))
        self.assertEqual(self.found("", "a", "new a 1 2", "free a"), (NOTHING, NOTHING))
        self.assertEqual(self.found("", "b", "new a 1 2", "set b a", "free b"), (NOTHING, NOTHING))

    def test_one_cell_by_two_names(self):
        ahead, behind = self.found("x", "c", "set a x", "put a worth 3", "get b x worth", "set c b", "put x next b")
        self.assertEqual((len(ahead[0]), behind), (1, ((("cell", "x", 3, 3),), (("same", "c", 3),))))

    def test_one_cell_twice(self):
        ahead, behind = self.found("x", "a b", "get a x next", "put x next 0", "get b x next")
        n = ahead[0][0][3]
        self.assertEqual(behind[1], (("same", "a", n), ("same", "b", 0)))

    def test_terms_of_which_nothing_tells_that_they_are_one(self):
        ahead, behind = self.found("x y", "", "put x worth 1", "put y worth 2")
        self.assertEqual([part[1] for part in ahead[0]], ["x", "y"])
        self.assertEqual([part[1:3] for part in behind[0]], [("x", 1), ("y", 2)])
        ahead, behind = self.found("x", "", "get a x next", "put a worth 1", "put x worth 2", "put 7 worth 3")
        self.assertEqual(len(ahead[0]), 3)

    def test_numbers_as_addresses(self):
        ahead, behind = self.found("", "a", "get a 5 next", "set b 5", "put b worth 2", "free 999999999")
        self.assertEqual([part[1] for part in ahead[0]], [5, 999999999])
        self.assertEqual(behind, ((("cell", 5, 2, ahead[0][0][3]),), (("same", "a", ahead[0][0][3]),)))

    def test_what_a_get_told_as_an_address(self):
        ahead, behind = self.found("x", "b", "get a x next", "get b a worth", "get b b next", "free x")
        first, second, third = ahead[0]
        self.assertEqual((second[1], third[1]), (first[3], second[2]))
        self.assertEqual(behind, ((second, third), (("same", "b", third[3]),)))

    def test_what_was_put_as_an_address(self):
        ahead, _ = self.found("x y", "", "put x next y", "get a x next", "put a worth 3")
        self.assertEqual([part[1] for part in ahead[0]], ["x", "y"])

    def test_order_of_the_same_cells(self):
        ahead, behind = self.found("x y z", "", "free y", "get a x next", "put z worth a")
        self.assertEqual(sorted([part[1] for part in ahead[0]]), ["x", "y", "z"])
        self.assertEqual(sorted([part[1] for part in behind[0]]), ["x", "z"])


class Made(FoundTest):

    def test_two_tells_of_one_cell(self):
        ahead, behind = self.found("", "a b", "new a 1 2", "set b a")
        self.assertEqual(behind, ((("cell", "a", 1, 2),), (("same", "b", "a"),)))
        ahead, behind = self.found("", "a b c", "new d 1 2", "set a d", "set b d", "set c d")
        self.assertEqual(len(behind[1]), 2)

    def test_two_tells_of_one_freed_cell(self):
        ahead, behind = self.found("", "a b", "new a 1 2", "set b a", "free a")
        self.assertEqual(behind[0], ())
        self.assertEqual([sorted(fact[1:]) for fact in behind[1]], [["a", "b"]])

    def test_told_and_led_to(self):
        ahead, behind = self.found("x", "a", "new a 1 2", "put x next a")
        self.assertEqual(sorted(behind[0]), sorted([("cell", "a", 1, 2), ("cell", "x", ahead[0][0][2], "a")]))
        self.assertEqual(behind[1], ())

    def test_led_to_alone(self):
        for field in ("worth", "next"):
            ahead, behind = self.found("x", "", "new a 1 2", f"put x {field} a")
            (x,) = [part for part in behind[0] if part[1] == "x"]
            (made,) = [part for part in behind[0] if part[1] != "x"]
            self.assertEqual((made[1], made[2:]), (x[2 if field == "worth" else 3], (1, 2)))

    def test_led_to_by_a_made_cell(self):
        ahead, behind = self.found("", "a", "new b 1 2", "new c 3 b", "new a c 4")
        self.assertEqual(len(behind[0]), 3)
        self.assertTrue(lawful(behind, ["a"]))

    def test_freed_but_still_held(self):
        ahead, behind = self.found("x", "a", "new a 1 2", "put x next a", "free a")
        self.assertEqual(behind, ((("cell", "x", ahead[0][0][2], "a"),), ()))
        ahead, behind = self.found("x", "", "new a 1 2", "put x next a", "free a")
        self.assertEqual(len(behind[0]), 1)

    def test_a_made_cell_where_one_was_freed(self):
        ahead, behind = self.found("x", "a", "free x", "new a 1 2")
        self.assertEqual(behind, ((("cell", "a", 1, 2),), ()))

    def test_left_behind(self):
        self.refused(None, "", "", "new a 1 2")
        self.refused(None, "x", "a", "new a 1 2", "set a x")
        self.refused(None, "x", "", "new a 1 2", "put x next a", "put x next 0")
        self.refused(None, "", "", "new a 1 2", "new b 1 a", "put a next b")
        self.refused(None, "x", "", "new a 1 2", "put x next a", "free x")

    def test_not_left_behind(self):
        self.found("x", "", "get a x next", "put x next 0", "put a worth 1")
        self.found("x", "", "get a x next", "put a worth 1", "free x")


class Refused(FoundTest):

    touches = ("free {}", "get a {} worth", "get a {} next", "put {} worth 1", "put {} next 1")

    def test_each_touch(self):
        for touch in self.touches:
            self.refused(1, "x", "", "get a x worth", touch.format(0))
            self.refused(1, "x", "", "get a x worth", touch.format(-3))
            self.refused(2, "x", "", "get a x worth", "set b -1", touch.format("b"))
            self.refused(1, "x", "", "free x", touch.format("x"))
            self.refused(2, "x", "", "set b x", "free b", touch.format("x"))
            self.refused(2, "", "", "new b 1 2", "free b", touch.format("b"))
            self.refused(1, "", "", "free 4", touch.format("4"))
            self.refused(0, "", "b", touch.format("b"))
            self.refused(0, "", "", touch.format("b"), "set b 3")
            self.refused(1, "x", "", "set b c", touch.format("b"), "set c 3")

    def test_the_first_such_row(self):
        self.refused(1, "x", "", "free x", "free x", "free x", "free 0")
        self.refused(2, "", "", "new a 1 2", "new b 1 2", "free 0", "free 0")

    def test_a_row_ahead_of_none(self):
        six = [f"free {k}" for k in range(1, 7)]
        self.refused(None, "", "", *six)
        self.refused(6, "", "", *six, "free 0")
        self.refused(6, "", "", *six, "free 3")
        self.refused(1, "", "", "new a 1 2", "free 0")

    def test_six_cells(self):
        self.assertEqual(len(self.found("", "", *[f"free {k}" for k in range(1, 6)])[0][0]), 5)
        self.refused(None, "", "", *[f"put {k} worth 1" for k in range(1, 7)])
        self.refused(None, "", "a", "new a 0 0", *["new a 0 a"] * 5)
        self.assertEqual(len(self.found("", "a", "new a 0 0", *["new a 0 a"] * 4)[1][0]), 5)
        self.refused(None, "x", "a", "put x next 0", "new a 0 0", *["new a 0 a"] * 4)
        self.found("", "", *["new a 1 2", "free a"] * 12)

    def test_what_a_new_holds_is_no_touch(self):
        self.found("", "a", "new a 0 -5")
        self.found("x", "", "put x next 0", "put x worth b", "set b 3")

    def test_by_name(self):
        told = find_claims(rows=(("set", "a", "x"),), tells=("a",), takes=("x",))
        self.assertEqual(told, (NOTHING, ((), (("same", "a", "x"),))))


class Chance(FoundTest):

    def rows(self, any_of, takes, own):
        known, rows = list(takes), []
        for _ in range(any_of.randint(0, 8)):
            terms, x = known * 3 + [0, 1, 2, 3], any_of.choice(own)
            kind = any_of.choice(["set", "new", "free", "get", "get", "put", "put"])
            address, field = any_of.choice(known * 4 + [1, 2, 0]), any_of.choice(["worth", "next"])
            rows.append({"set": ("set", x, any_of.choice(terms)), "free": ("free", address),
                         "new": ("new", x, any_of.choice(terms), any_of.choice(terms)),
                         "get": ("get", x, address, field), "put": ("put", address, field, any_of.choice(terms))}[kind])
            if kind in ("set", "new", "get"):
                known.append(x)
        return tuple(rows)

    def test_many(self):
        counted = {}
        any_of = random.Random(5)
        for _ in range(3000):
            takes, own = ("p", "q", "x")[:any_of.randint(0, 3)], ["l", "m", "n", "o"]
            tells = tuple(any_of.sample(own, any_of.randint(0, 3)))
            rows = self.rows(any_of, takes, own)
            if not is_deed(deed("d", takes, tells, rows=rows)):
                continue
            try:
                self.check(takes, tells, rows)
                kind = "found"
            except NoNeed as refused:
                kind = refused.row is None
            counted[kind] = counted.get(kind, 0) + 1
        self.assertEqual(len(counted), 3)
        self.assertGreater(min(counted.values()), 200)

    def test_as_the_machine_does_it(self):
        """A run touches just the cells that the claim ahead has: it faults where one of them is missing."""
        some = read_deed("deed d takes x y ; tells a\nahead none\nbehind none\nget a x next\nput a worth y\nfree y")
        ahead, behind = self.check(some[1], some[2], some[5])
        self.assertEqual(show_claim(ahead).count("cell"), 3)
        self.assertEqual(row_names(ahead) + row_names(behind), [])
        self.assertTrue(lawful(ahead, ["x", "y"]))
        heap = ((3, 0, 5), (5, 0, 0), (7, 0, 0))
        self.assertEqual(run([some], "d", (3, 7), heap)[0], "ends")
        for k in range(3):
            self.assertEqual(run([some], "d", (3, 7), heap[:k] + heap[k + 1:]), ("fault", "d", k))
        self.assertEqual(len(claim_names(ahead)), 2 + 6)
