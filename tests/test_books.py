"""Point 20: the book."""

import random
import unittest

from cellvouch.books import Book
from cellvouch.errors import NoDeed, NoName
from cellvouch.loose import played
from cellvouch.verdicts import verdict
from tests.bending import bent
from tests.samples import NOTHING, REVERSE, STRANGE, cell, claim, deed, fork, loop
from tests.shelf import BY_NAME, DEEDS

ONE = claim(cell("x", "v", "m"))


def caller(name, *called, **more):
    """A deed that calls these."""
    return deed(name, rows=tuple([("call", (), other, ()) for other in called]), **more)


class BookTest(unittest.TestCase):

    def kept(self, *deeds):
        """A book of these deeds of which none is still to be told as looked at."""
        book = Book(list(deeds))
        book.looked()
        return book

    def same_as_new(self, book, deeds):
        """The book tells what one that is made anew of these deeds tells."""
        new = Book(deeds)
        self.assertTrue(book == new)
        self.assertEqual(book.names(), new.names())
        for name in book.names():
            told, other = book.verdict(name), new.verdict(name)
            self.assertEqual(told is None or told[0], other is None or other[0])
            self.assertEqual(told is None or told[0], verdict(deeds, name) is None or verdict(deeds, name)[0])
            if told is not None and told[0] == "absent":
                self.assertEqual(told, other)
            if told is not None and told[0] == "loose":
                self.assertIsNotNone(played(deeds, name, told[1]))


class Kept(BookTest):

    def test_none(self):
        book = Book()
        self.assertEqual((len(book), book.names(), book.looked()), (0, [], []))
        self.assertEqual((len(Book([])), Book(()) == Book()), (0, True))

    def test_keep_and_drop(self):
        book = Book()
        self.assertIsNone(book.keep(REVERSE))
        self.assertEqual((len(book), book.names(), book.deed("rev")), (1, ["rev"], REVERSE))
        self.assertIsNone(book.drop("rev"))
        self.assertEqual((len(book), book.names()), (0, []))

    def test_in_the_place_of_one_of_its_name(self):
        book = Book([deed("a"), deed("b")])
        book.keep(deed("a", tells=("y",)))
        self.assertEqual((len(book), book.deed("a")), (2, deed("a", tells=("y",))))

    def test_deeds_of_one_name_in_their_order(self):
        first, second = deed("a"), deed("a", tells=("y",))
        self.assertEqual(Book([first, deed("b"), second]).deed("a"), second)
        self.assertEqual(Book([second, first]).deed("a"), first)
        self.assertEqual(len(Book([first, second])), 1)

    def test_names_rise(self):
        self.assertEqual(Book([deed(name) for name in ("b", "z", "ab", "a", "b")]).names(), ["a", "ab", "b", "z"])

    def test_what_is_handed_in_later(self):
        deeds = [deed("a")]
        book = Book(deeds)
        deeds.append(deed("b"))
        deeds[0] = deed("c")
        self.assertEqual(book.names(), ["a"])

    def test_what_is_told_is_the_askers_own(self):
        book = Book([deed("a", rows=(("free", 9),)), deed("b")])
        for told in (book.names(), book.looked(), book.names()):
            told.clear()
        self.assertEqual(book.names(), ["a", "b"])
        book.keep(deed("c"))
        book.looked().append("d")
        self.assertEqual(book.looked(), [])
        told = book.verdict("a")[1]
        told[1]["x"] = 1
        told[3].append(1)
        self.assertEqual(played([book.deed("a")], "a", book.verdict("a")[1]), ("fault", 0))

    def test_equal(self):
        first, second = Book([deed("a"), deed("b")]), Book([deed("b"), deed("a")])
        self.assertTrue(first == second)
        self.assertFalse(first != second)
        second.looked()
        second.verdict("a")
        self.assertTrue(first == second)
        second.drop("a")
        self.assertFalse(first == second)
        second.keep(deed("a", tells=("y",)))
        self.assertFalse(first == second)
        second.keep(deed("a"))
        self.assertTrue(first == second)
        for thing in STRANGE + ([deed("a"), deed("b")], {"a": deed("a"), "b": deed("b")}):
            self.assertFalse(first == thing)


class Refused(BookTest):

    def test_no_deed(self):
        book = self.kept(deed("a"), caller("b", "a"))
        for thing in STRANGE + (list(deed("a")), deed("A"), deed("a")[:5], [deed("a")], NOTHING,
                                deed("a", rows=(("free", "x"),))):
            with self.assertRaises(NoDeed):
                book.keep(thing)
        self.assertEqual((book.looked(), book.names(), book.deed("a")), ([], ["a", "b"], deed("a")))
        with self.assertRaises(NoDeed):
            Book([deed("a"), None])

    def test_no_name(self):
        book = self.kept(deed("a"), caller("b", "a", "c"))
        for thing in STRANGE + ("c", "A", "ab", ("a",), ["a"], deed("a")):
            if thing == "a":
                continue
            for ask in (book.drop, book.deed, book.verdict):
                with self.assertRaises(NoName) as caught:
                    ask(thing)
                self.assertIs(caught.exception.name, thing)
        self.assertEqual((book.looked(), book.names()), ([], ["a", "b"]))

    def test_dropped_twice(self):
        book = Book([deed("a")])
        book.drop("a")
        for ask in (book.drop, book.deed, book.verdict):
            with self.assertRaises(NoName):
                ask("a")


class Looked(BookTest):

    def test_once(self):
        book = Book([deed("b"), deed("a"), deed("b")])
        self.assertEqual(book.looked(), ["a", "b"])
        self.assertEqual(book.looked(), [])

    def test_kept_again_as_it_was(self):
        book = self.kept(deed("a"), caller("b", "a"), caller("c", "c"))
        for name in ("a", "b", "c"):
            book.keep(book.deed(name))
        self.assertEqual(book.looked(), [])

    def test_kept_with_other_rows(self):
        book = self.kept(deed("a"), caller("b", "a"), caller("c", "b"))
        book.keep(deed("a", rows=(("set", "y", 1),)))
        self.assertEqual(book.looked(), ["a"])
        book.keep(caller("b", "c"))
        self.assertEqual(book.looked(), ["b"])

    def test_kept_with_another_head(self):
        one = ((), (("same", 1, 1),))
        first = deed("a")
        for second in (deed("a", takes=("x",)), deed("a", tells=("y",)), deed("a", ahead=one), deed("a", behind=one)):
            book = self.kept(first, caller("b", "a"), caller("c", "b"), deed("d"))
            book.keep(second)
            self.assertEqual(book.looked(), ["a", "b"])
            book.keep(first)
            book.keep(second)
            self.assertEqual(book.looked(), ["a", "b"])

    def test_a_name_that_is_not_there_yet(self):
        book = self.kept(caller("b", "a"), deed("c", rows=(fork(others=(loop(("call", (), "a", (1,))),)),)), deed("d"))
        self.assertEqual(book.verdict("b"), ("absent", "a"))
        book.keep(deed("a"))
        self.assertEqual(book.looked(), ["a", "b", "c"])
        self.assertIsNone(book.verdict("b"))
        self.assertEqual(book.verdict("c"), ("absent", "a"))

    def test_dropped(self):
        book = self.kept(deed("a"), caller("b", "a"), caller("c", "b"), caller("d", "d", "a"))
        book.drop("a")
        self.assertEqual(book.looked(), ["b", "d"])
        book.drop("d")
        self.assertEqual(book.looked(), [])
        self.assertEqual(book.verdict("b"), ("absent", "a"))
        book.keep(deed("a"))
        self.assertEqual(book.looked(), ["a", "b"])

    def test_a_deed_that_calls_itself(self):
        book = Book([caller("a", "a")])
        self.assertEqual(book.looked(), ["a"])
        book.keep(caller("a", "a", "a"))
        self.assertEqual(book.looked(), ["a"])
        book.keep(caller("a", "a", tells=("y",)))
        self.assertEqual(book.looked(), ["a"])
        book.drop("a")
        self.assertEqual(book.looked(), [])

    def test_two_that_call_one_another(self):
        book = self.kept(caller("a", "b"), caller("b", "a"))
        book.keep(caller("a", "b", tells=("y",)))
        self.assertEqual(book.looked(), ["a", "b"])
        book.keep(caller("b"))
        self.assertEqual(book.looked(), ["b"])

    def test_those_alone_that_are_there(self):
        book = Book([deed("a"), caller("b", "a"), deed("c")])
        book.drop("a")
        book.drop("c")
        self.assertEqual(book.looked(), ["b"])
        book.keep(deed("d"))
        book.drop("d")
        self.assertEqual(book.looked(), [])
        book.keep(deed("c"))
        book.drop("c")
        book.keep(deed("c"))
        self.assertEqual(book.looked(), ["c"])

    def test_a_verdict_looks_at_nothing(self):
        book = self.kept(*DEEDS)
        for name in book.names():
            self.assertIsNone(book.verdict(name))
        self.assertEqual(book.looked(), [])


class Verdicts(BookTest):

    def test_the_shelf(self):
        self.same_as_new(Book(DEEDS), DEEDS)

    def test_behind_edits(self):
        liar = deed("f", (), ("y",), behind=claim(cell("y", "v", "n")))
        book = Book([deed("d", (), (), rows=(("call", ("a",), "f", ()), ("free", "a")))])
        self.assertEqual(book.verdict("d"), ("absent", "f"))
        book.keep(liar)
        self.assertIsNone(book.verdict("d"))
        self.assertEqual(book.verdict("f")[0], "loose")
        book.keep(deed("f", (), ("y",)))
        self.assertEqual(book.verdict("d")[0], "loose")
        self.assertIsNone(book.verdict("f"))
        book.keep(deed("f"))
        self.assertEqual(book.verdict("d"), ("absent", "f"))
        book.drop("f")
        self.assertEqual(book.verdict("d"), ("absent", "f"))
        book.keep(liar)
        self.assertIsNone(book.verdict("d"))

    def test_many_edits(self):
        any_of = random.Random(4)
        for _ in range(12):
            book, there = Book(DEEDS[:6]), {some[0]: some for some in DEEDS[:6]}
            for _ in range(12):
                some = any_of.choice(DEEDS[:8])
                if any_of.random() < 0.25 and some[0] in there:
                    book.drop(some[0])
                    del there[some[0]]
                else:
                    some = bent(any_of, some) if any_of.random() < 0.6 else some
                    book.keep(some)
                    there[some[0]] = some
                if any_of.random() < 0.5:
                    for name in book.names():
                        book.verdict(name)
            self.same_as_new(book, list(there.values()))

    def test_only_what_hangs_on_the_edit(self):
        book = self.kept(*DEEDS)
        book.keep(BY_NAME["rev"][:3] + (ONE, NOTHING) + BY_NAME["rev"][5:])
        self.assertEqual(book.looked(), ["copy", "pairs", "rev", "twice"])
        self.assertEqual(book.verdict("twice")[0], "loose")
        self.assertIsNone(book.verdict("append"))

    def test_by_name(self):
        book = Book(deeds=[deed("a")])
        book.keep(deed=deed("b"))
        self.assertEqual((book.deed(name="a"), book.verdict(name="b")), (deed("a"), None))
        book.drop(name="a")
        self.assertEqual(book.names(), ["b"])
