"""Points 2 and 4: numbers, names, terms and words."""

import unittest

from cellvouch.words import is_word, row_of, turned
from tests.samples import NAMES, NO_NAMES, NO_TERMS, STRANGE, WHOLE_NUMBERS, back, one, row


class IsWord(unittest.TestCase):

    def holds(self, *things):
        for thing in things:
            self.assertIs(is_word(thing), True, thing)

    def fails(self, *things):
        for thing in things:
            self.assertIs(is_word(thing), False, thing)

    def test_many_pieces(self):
        self.holds((), (one(1),), (row("a"),) * 5, (row("a"),) * 6)
        self.fails((row("a"),) * 7, (one(1),) * 2000)

    def test_terms(self):
        self.holds(*[(one(term),) for term in WHOLE_NUMBERS + NAMES])
        self.fails(*[(one(term),) for term in NO_TERMS])

    def test_figures(self):
        self.holds((one(999999999),), (one(-999999999),))
        self.fails((one(1000000000),), (one(-1000000000),))

    def test_truths_are_no_numbers(self):
        self.fails((one(True),), (one(False),), (row(True),))

    def test_names_of_rows(self):
        for kind in (row, back):
            self.holds(*[(kind(name),) for name in NAMES])
            self.fails(*[(kind(name),) for name in NO_NAMES])
            self.fails(*[(kind(number),) for number in WHOLE_NUMBERS])

    def test_letters_beyond_a_to_z(self):
        self.fails((one("\u00e4"),), (row("\u0101"),), (row("{"),), (row("`"),))

    def test_bent_pieces(self):
        self.fails(("one",), (("one",),), (("one", 1, 1),), ((),), (["one", 1],), ("on",), (("two", 1),), (("", 1),))
        self.fails([one(1)], [], one(1), row("a"), (None,), (("Row", "a"),), ((("row",), "a"),), ((["row"], "a"),))
        self.fails((one(1), ("row",)), (("row", "a", "b"), one(1)), (one(1), None))

    def test_a_name_in_two_ways(self):
        self.holds((one("a"), row("a"), back("a")))

    def test_anything(self):
        self.holds(())
        self.fails(*[thing for thing in STRANGE if thing != ()])

    def test_by_name(self):
        self.assertIs(is_word(thing=(one(1),)), True)


class Rows(unittest.TestCase):

    worths = {"n": 7, "r": (1, 2, 3), "e": (), "s": (-5,)}

    def test_empty_word(self):
        self.assertEqual(row_of((), self.worths), ())
        self.assertEqual(row_of((), {}), ())

    def test_each_piece(self):
        self.assertEqual(row_of((one(4),), {}), (4,))
        self.assertEqual(row_of((one("n"),), self.worths), (7,))
        self.assertEqual(row_of((row("r"),), self.worths), (1, 2, 3))
        self.assertEqual(row_of((back("r"),), self.worths), (3, 2, 1))
        self.assertEqual(row_of((row("e"), back("e")), self.worths), ())

    def test_one_behind_the_other(self):
        word = (row("r"), one("n"), back("r"), row("s"), one(0), back("s"))
        self.assertEqual(row_of(word, self.worths), (1, 2, 3, 7, 3, 2, 1, -5, 0, -5))

    def test_is_a_tuple_and_leaves_what_it_gets(self):
        worths = dict(self.worths)
        self.assertIsInstance(row_of((row("r"),), worths), tuple)
        self.assertEqual(worths, self.worths)

    def test_by_name(self):
        self.assertEqual(row_of(word=(one("n"),), worths={"n": 1}), (1,))
        self.assertEqual(turned(word=(row("a"),)), (back("a"),))


class Turned(unittest.TestCase):

    def test_each_piece(self):
        self.assertEqual(turned(()), ())
        self.assertEqual(turned((one("a"),)), (one("a"),))
        self.assertEqual(turned((one(5),)), (one(5),))
        self.assertEqual(turned((row("a"),)), (back("a"),))
        self.assertEqual(turned((back("a"),)), (row("a"),))

    def test_order(self):
        self.assertEqual(turned((row("a"), one(1), back("b"))), (row("b"), one(1), back("a")))

    def test_twice(self):
        word = (row("a"), one(1), back("b"), row("b"), one("c"), row("a"))
        self.assertEqual(turned(turned(word)), word)

    def test_stands_for_the_row_the_other_way_about(self):
        worths = {"a": (1, 2), "b": (3, 4, 5), "c": 6}
        word = (row("a"), one("c"), back("b"), one(9))
        self.assertEqual(row_of(turned(word), worths), row_of(word, worths)[::-1])
