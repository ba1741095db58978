"""Point 12: the machine."""

import copy
import random
import unittest

from cellvouch.deeds import is_deed, locals_of
from cellvouch.heaps import is_heap
from cellvouch.machine import run
from tests.samples import REVERSE, Maker, cell, claim, deed, fork, loop


def done(*rows, takes=(), tells=(), numbers=(), heap=(), others=(), **more):
    """What is told of a deed with these rows."""
    some = deed("d", takes, tells, rows=tuple(rows))
    assert is_deed(some), some
    return run([some] + list(others), "d", numbers, heap, **more)


class Plain(unittest.TestCase):

    def test_nothing(self):
        self.assertEqual(done(), ("ends", (), ()))
        self.assertEqual(done(heap=((3, 4, 5),)), ("ends", (), ((3, 4, 5),)))

    def test_locals_are_0_at_first(self):
        self.assertEqual(done(tells=("a", "b")), ("ends", (0, 0), ()))

    def test_takes(self):
        rows = (("set", "a", "x"), ("set", "b", "y"))
        self.assertEqual(done(*rows, takes=("x", "y"), tells=("b", "a"), numbers=(5, 6)), ("ends", (6, 5), ()))

    def test_numbers_in_the_order_of_tells(self):
        rows = (("set", "a", 1), ("set", "b", 2), ("set", "c", 3))
        for tells in (("a", "b", "c"), ("c", "a", "b"), ("b",)):
            told = tuple([{"a": 1, "b": 2, "c": 3}[name] for name in tells])
            self.assertEqual(done(*rows, tells=tells), ("ends", told, ()))

    def test_set(self):
        self.assertEqual(done(("set", "a", -5), tells=("a",)), ("ends", (-5,), ()))
        self.assertEqual(done(("set", "a", 1), ("set", "a", "a"), tells=("a",)), ("ends", (1,), ()))
        self.assertEqual(done(("set", "a", "b"), ("set", "b", 2), tells=("a", "b")), ("ends", (0, 2), ()))

    def test_new(self):
        self.assertEqual(done(("new", "a", 7, -8), tells=("a",)), ("ends", (1,), ((1, 7, -8),)))
        self.assertEqual(done(("new", "a", "x", "a"), takes=("x",), numbers=(4,), tells=("a",), heap=((1, 1, 1),)),
                         ("ends", (2,), ((1, 1, 1), (2, 4, 0))))

    def test_what_is_read_is_read_first(self):
        self.assertEqual(done(("set", "a", 9), ("new", "a", "a", "a"), tells=("a",)), ("ends", (1,), ((1, 9, 9),)))
        self.assertEqual(done(("set", "a", 5), ("get", "a", "a", "next"), tells=("a",), heap=((5, 1, 2),)),
                         ("ends", (2,), ((5, 1, 2),)))

    def test_free(self):
        self.assertEqual(done(("free", 5), heap=((4, 1, 1), (5, 1, 2))), ("ends", (), ((4, 1, 1),)))
        self.assertEqual(done(("free", "x"), takes=("x",), numbers=(4,), heap=((4, 0, 0),)), ("ends", (), ()))

    def test_get(self):
        rows = (("get", "a", 5, "worth"), ("get", "b", 5, "next"))
        self.assertEqual(done(*rows, tells=("a", "b"), heap=((5, 8, 9),)), ("ends", (8, 9), ((5, 8, 9),)))

    def test_put(self):
        self.assertEqual(done(("put", 5, "worth", 3), heap=((5, 8, 9),)), ("ends", (), ((5, 3, 9),)))
        self.assertEqual(done(("put", 5, "next", -3), heap=((5, 8, 9), (6, 1, 1))),
                         ("ends", (), ((5, 8, -3), (6, 1, 1))))

    def test_heaps_rise(self):
        rows = [("new", "a", k, 0) for k in range(6)]
        told = done(*rows, places=(9, 3, 7, 1, 8, 2))
        self.assertEqual(told, ("ends", (), ((1, 3, 0), (2, 5, 0), (3, 1, 0), (7, 2, 0), (8, 4, 0), (9, 0, 0))))
        self.assertTrue(is_heap(told[2]))

    def test_claims_are_not_asked(self):
        some = deed("d", ("x",), (), claim(cell("x", 5, 5)), claim(cell("x", 6, 6)))
        self.assertEqual(run([some], "d", (3,), ()), ("ends", (), ()))


class Faults(unittest.TestCase):

    kinds = (("free", "x"), ("get", "a", "x", "worth"), ("get", "a", "x", "next"), ("put", "x", "worth", 1),
             ("put", "x", "next", 1))

    def test_each_kind(self):
        for some in self.kinds:
            for number in (0, -1, 4, 999999999):
                told = done(("set", "a", 1), some, takes=("x",), numbers=(number,), heap=((5, 1, 1),))
                self.assertEqual(told, ("fault", "d", 1))
            self.assertEqual(done(("set", "a", 1), some, takes=("x",), numbers=(5,), heap=((5, 1, 1),))[0], "ends")

    def test_a_cell_that_was_freed(self):
        for some in self.kinds:
            self.assertEqual(done(("set", "a", 0), ("free", "x"), some, takes=("x",), numbers=(5,), heap=((5, 1, 1),)),
                             ("fault", "d", 2))

    def test_the_row_within_ifs_and_loops(self):
        for some in self.kinds:
            rows = (("set", "a", 0), fork(("set", "a", 1), others=(("set", "a", 2), loop(some, test=("a", "is", 2)))))
            self.assertEqual(done(*rows, takes=("x",), numbers=(5,)), ("fault", "d", 5))
            rows = (fork(fork(some, test=(1, "is", 1)), ("set", "a", 0), test=(1, "is", 1)), ("set", "a", 0))
            self.assertEqual(done(*rows, takes=("x",), numbers=(5,)), ("fault", "d", 2))
            rows = (loop(fork(("set", "a", 1), others=(some,))), fork(("set", "a", 1), others=(fork(others=(some,)),)))
            self.assertEqual(done(*rows, takes=("x",), numbers=(5,)), ("fault", "d", 7))

    def test_behind_ifs_and_loops(self):
        rows = (fork(("free", 5), others=(("free", 6),), test=(1, "is", 2)), loop(("free", 7)), ("free", 8))
        self.assertEqual(done(*rows, heap=((6, 0, 0),)), ("fault", "d", 5))

    def test_in_a_called_deed(self):
        for some in self.kinds:
            other = deed("e", ("x",), (), rows=(("set", "a", 0), fork(others=(some,))))
            for rows in ((("call", (), "e", (4,)),), (fork(others=(("call", (), "e", (4,)),)), ("free", 1))):
                self.assertEqual(done(*rows, others=[other]), ("fault", "e", 2))
        self.assertEqual(done(("call", (), "e", (4,)), ("free", 1), others=[deed("e", ("x",))]), ("fault", "d", 1))

    def test_in_a_deed_that_calls_itself(self):
        rows = (("free", "x"), ("get", "a", "y", "next"), ("call", (), "d", ("y", "a")))
        self.assertEqual(done(*rows, takes=("x", "y"), numbers=(1, 2), heap=((1, 0, 0), (2, 0, 3), (3, 0, 4))),
                         ("fault", "d", 1))


class Flow(unittest.TestCase):

    def test_tests(self):
        for left, word, right, holds in ((1, "is", 1, True), (1, "is", 2, False), (1, "isn't", 1, False),
                                         (1, "isn't", 2, True)):
            some = fork(("set", "a", 1), others=(("set", "a", 2),), test=(left, word, right))
            self.assertEqual(done(some, tells=("a",)), ("ends", (1 if holds else 2,), ()))
            some = fork(("set", "a", 1), others=(("set", "a", 2),), test=("x", word, "y"))
            self.assertEqual(done(some, tells=("a",), takes=("x", "y"), numbers=(left, right)),
                             ("ends", (1 if holds else 2,), ()))

    def test_empty_ifs(self):
        for test in ((1, "is", 1), (1, "is", 2)):
            self.assertEqual(done(fork(test=test), ("set", "a", 3), tells=("a",)), ("ends", (3,), ()))
            self.assertEqual(done(fork(fork(test=test), others=(fork(test=test),), test=test), tells=("a",)),
                             ("ends", (0,), ()))

    def test_a_loop_that_is_left_at_once(self):
        self.assertEqual(done(loop(("free", 1)), ("set", "a", 2), tells=("a",)), ("ends", (2,), ()))

    def test_a_loop_along_a_stretch(self):
        heap = ((1, 10, 5), (3, 30, 0), (5, 50, 3))
        self.assertEqual(run([REVERSE], "rev", (1,), heap), ("ends", (3,), ((1, 10, 0), (3, 30, 5), (5, 50, 1))))
        self.assertEqual(run([REVERSE], "rev", (0,), heap), ("ends", (0,), heap))
        self.assertEqual(run([REVERSE], "rev", (2,), heap), ("fault", "rev", 3))

    def test_loops_within_loops(self):
        inner = loop(("get", "b", "b", "next"), ("new", "c", 0, 0), test=("b", "isn't", 0))
        outer = loop(("set", "b", 1), inner, ("get", "a", "a", "next"), test=("a", "isn't", 0))
        told = done(("set", "a", 1), outer, heap=((1, 0, 2), (2, 0, 3), (3, 0, 0)))
        self.assertEqual(len(told[2]), 3 + 9)


class Calls(unittest.TestCase):

    swap = deed("swap", ("x", "y"), ("a", "b"), rows=(("set", "a", "y"), ("set", "b", "x")))

    def test_takes_and_outs(self):
        some = ("call", ("a", "b"), "swap", (5, 6))
        self.assertEqual(done(some, tells=("a", "b"), others=[self.swap]), ("ends", (6, 5), ()))
        self.assertEqual(done(some, tells=("b", "a"), others=[self.swap]), ("ends", (5, 6), ()))
        some = ("call", ("b", "a"), "swap", ("a", "b"))
        told = done(("set", "a", 1), ("set", "b", 2), some, tells=("a", "b"), others=[self.swap])
        self.assertEqual(told, ("ends", (1, 2), ()))

    def test_locals_are_its_own(self):
        other = deed("e", (), ("c",), rows=(("set", "b", 9), ("set", "c", "a"), ("set", "a", 8)))
        twice = (("call", ("c",), "e", ()), ("call", ("c",), "e", ()))
        told = done(("set", "a", 1), *twice, ("set", "b", "b"), tells=("a", "b", "c"), others=[other])
        self.assertEqual(told, ("ends", (1, 0, 0), ()))

    def test_the_heap_is_one(self):
        other = deed("e", ("x",), ("a",), rows=(("free", "x"), ("new", "a", 4, 5)))
        told = done(("call", ("b",), "e", (7,)), ("put", "b", "worth", 1), tells=("b",), others=[other],
                    heap=((7, 0, 0),), places=(9,))
        self.assertEqual(told, ("ends", (9,), ((9, 1, 5),)))

    def test_it_goes_on_behind_the_call(self):
        rows = (loop(("call", ("a",), "e", ("a",)), fork(test=("a", "is", 4)), test=("a", "isn't", 3)),
                ("set", "b", "a"))
        other = deed("e", ("x",), ("y",), rows=(
            fork(("set", "y", 1), test=("x", "is", 0)), fork(("set", "y", 2), test=("x", "is", 1)),
            fork(("set", "y", 3), test=("x", "is", 2))))
        self.assertEqual(done(*rows, tells=("b",), others=[other]), ("ends", (3,), ()))

    def test_a_deed_that_calls_itself(self):
        rows = (fork(("get", "n", "x", "next"), ("call", ("a",), "d", ("n",)), ("get", "w", "x", "worth"),
                     ("new", "a", "w", "a"),
                     test=("x", "isn't", 0)),)
        told = done(*rows, takes=("x",), tells=("a",), numbers=(1,), heap=((1, 10, 2), (2, 20, 0)))
        self.assertEqual(told, ("ends", (4,), ((1, 10, 2), (2, 20, 0), (3, 20, 0), (4, 10, 3))))


class Absent(unittest.TestCase):

    def test_not_in_the_list(self):
        self.assertEqual(done(("call", (), "e", ())), ("absent", "e"))
        self.assertEqual(done(("free", 1), ("call", (), "e", ())), ("fault", "d", 0))
        self.assertEqual(done(fork(("call", (), "e", ()))), ("ends", (), ()))

    def test_another_many(self):
        other = deed("e", ("x",), ("y", "z"))
        self.assertEqual(done(("call", ("a", "b"), "e", (1,)), others=[other]), ("ends", (), ()))
        for outs, terms in ((("a", "b"), ()), (("a", "b"), (1, 1)), (("a",), (1,)), (("a", "b", "c"), (1,)),
                            ((), (1,)), ((), ())):
            self.assertEqual(done(("call", outs, "e", terms), others=[other]), ("absent", "e"))
        self.assertEqual(done(("call", (), "d", (1,))), ("absent", "d"))

    def test_at_whatever_depth(self):
        inner = loop(fork(("call", (), "f", ()), test=(1, "is", 1)), test=(1, "is", 1))
        others = [deed("e", rows=(inner,)), deed("f", rows=(("call", (), "g", ()),))]
        self.assertEqual(done(("call", (), "e", ()), others=others), ("absent", "g"))


class Steps(unittest.TestCase):

    def test_each_row_counts_one(self):
        rows = (("new", "a", 0, 0), ("set", "b", "a"), ("put", "a", "worth", 1), ("get", "c", "a", "worth"),
                ("free", "a"))
        self.assertEqual(done(*rows, steps=5), ("ends", (), ()))
        for steps in range(1, 5):
            self.assertEqual(done(*rows, steps=steps), ("steps",))

    def test_no_rows(self):
        self.assertEqual(done(steps=1), ("ends", (), ()))

    def test_ifs(self):
        self.assertEqual(done(fork(), steps=1), ("ends", (), ()))
        self.assertEqual(done(fork(others=(("set", "a", 1),)), steps=2)[0], "ends")
        self.assertEqual(done(fork(others=(("set", "a", 1),)), steps=1), ("steps",))
        self.assertEqual(done(fork(("set", "a", 1)), fork(), steps=2)[0], "ends")
        self.assertEqual(done(fork(("set", "a", 1)), fork(), steps=1), ("steps",))

    def test_loops_count_each_test(self):
        self.assertEqual(done(loop(), steps=1), ("ends", (), ()))
        heap = tuple([(k, 0, k + 1) for k in range(1, 10)]) + ((10, 0, 0),)
        rows = (("set", "a", 1), loop(("get", "a", "a", "next"), test=("a", "isn't", 0)))
        self.assertEqual(done(*rows, heap=heap, steps=1 + 11 + 10), ("ends", (), heap))
        self.assertEqual(done(*rows, heap=heap, steps=1 + 11 + 10 - 1), ("steps",))

    def test_calls_count_besides_their_rows(self):
        others = [deed("e", rows=(("set", "a", 1), ("set", "b", 2))), deed("f")]
        self.assertEqual(done(("call", (), "f", ()), others=others, steps=1), ("ends", (), ()))
        rows = (("call", (), "e", ()), ("call", (), "e", ()), ("set", "a", 1))
        self.assertEqual(done(*rows, others=others, steps=7), ("ends", (), ()))
        self.assertEqual(done(*rows, others=others, steps=6), ("steps",))

    def test_without_end(self):
        for steps in (1, 1000, 10000):
            self.assertEqual(done(loop(test=(1, "is", 1)), steps=steps), ("steps",))
            self.assertEqual(done(loop(fork(), test=(1, "is", 1)), steps=steps), ("steps",))
        self.assertEqual(done(loop(("new", "a", 0, 0), test=(1, "is", 1)), steps=10000), ("steps",))

    def test_a_thousand_where_none_are_told(self):
        made = loop(("new", "a", 0, "a"), test=("a", "isn't", 499))
        self.assertEqual(done(made)[0], "ends")
        self.assertEqual(done(("set", "b", 0), made)[0], "ends")
        self.assertEqual(done(("set", "b", 0), made, ("set", "b", 0)), ("steps",))
        self.assertEqual(done(loop(("new", "a", 0, "a"), test=("a", "isn't", 500))), ("steps",))

    def test_the_first_one_too_many_is_not_done(self):
        self.assertEqual(done(("set", "a", 0), ("free", 5), steps=1), ("steps",))
        self.assertEqual(done(("set", "a", 0), ("free", 5), steps=2), ("fault", "d", 1))
        self.assertEqual(done(("set", "a", 0), ("call", (), "e", ()), steps=1), ("steps",))
        self.assertEqual(done(("set", "a", 0), ("call", (), "e", ()), steps=2), ("absent", "e"))


class Deep(unittest.TestCase):

    def chain(self, many, *rows):
        """A deed that calls itself until so many calls stand within one another, and does the rows there."""
        heap = tuple([(k, 0, k + 1) for k in range(1, many)])
        if many:
            heap += ((many, 0, 0),)
        some = fork(("get", "n", "x", "next"), ("call", (), "d", ("n",)), test=("x", "isn't", 0), others=rows)
        return some, heap, 1 if many else 0

    def told(self, many, *rows, **more):
        some, heap, first = self.chain(many, *rows)
        return done(some, takes=("x",), numbers=(first,), heap=heap, **more)

    def test_the_sixtieth(self):
        for many in (0, 1, 2, 58, 59):
            self.assertEqual(self.told(many)[0], "ends", many)
        for many in (60, 61, 100):
            self.assertEqual(self.told(many), ("deep",), many)

    def test_calls_one_behind_the_other(self):
        rows = (("call", (), "e", ()), loop(("call", (), "e", ()), ("new", "a", 0, 0), test=("a", "isn't", 99)))
        self.assertEqual(done(*rows, others=[deed("e")])[0], "ends")

    def test_calls_of_two(self):
        others = [deed("e", rows=(("call", (), "f", ()),)), deed("f", rows=(("call", (), "e", ()),))]
        self.assertEqual(done(("call", (), "e", ()), others=others), ("deep",))
        self.assertEqual(done(("call", (), "e", ()), others=others, steps=60), ("deep",))
        self.assertEqual(done(("call", (), "e", ()), others=others, steps=59), ("steps",))

    def test_steps_before_absent_before_deep(self):
        # Each of the fifty-nine calls takes three steps: the if, the get, the call.
        last = ("call", (), "other", ())
        self.assertEqual(self.told(59, last, steps=3 * 59 + 2), ("absent", "other"))
        self.assertEqual(self.told(59, last, steps=3 * 59 + 1), ("steps",))
        other = [deed("other")]
        self.assertEqual(self.told(59, last, steps=3 * 59 + 2, others=other), ("deep",))
        self.assertEqual(self.told(59, last, steps=3 * 59 + 1, others=other), ("steps",))
        self.assertEqual(self.told(58, last, steps=3 * 58 + 2, others=other)[0], "ends")
        self.assertEqual(self.told(59, last, others=[deed("other", ("x",))]), ("absent", "other"))

    def test_a_fault_deep_within(self):
        self.assertEqual(self.told(59, ("free", 5000)), ("fault", "d", 3))


class Places(unittest.TestCase):

    def made(self, many, heap=(), places=None):
        """The addresses of so many new cells, in their order."""
        more = {} if places is None else {"places": places}
        told = done(*[("new", "a", k, -1) for k in range(many)], heap=heap, **more)
        by_worth = {worth: address for address, worth, after in told[2] if after == -1}
        return tuple([by_worth[k] for k in range(many)])

    def test_none_told(self):
        self.assertEqual(self.made(3), (1, 2, 3))
        self.assertEqual(self.made(4, ((2, 0, 0), (4, 0, 0))), (1, 3, 5, 6))
        self.assertEqual(self.made(2, ((7, 0, 0),), ()), (1, 2))

    def test_places_left(self):
        self.assertEqual(self.made(3, (), (9, 4, 6, 8)), (9, 4, 6))

    def test_places_used_up(self):
        self.assertEqual(self.made(5, (), (3, 2)), (3, 2, 1, 4, 5))

    def test_places_where_cells_are(self):
        self.assertEqual(self.made(3, ((5, 0, 0), (7, 0, 0)), (5, 6, 7, 8)), (6, 8, 1))
        self.assertEqual(self.made(2, ((5, 0, 0), (7, 0, 0)), (5, 7)), (1, 2))
        self.assertEqual(self.made(3, (), (5, 5, 6)), (5, 6, 1))

    def test_those_ahead_are_taken_too(self):
        # Where 5 is free again, it was already passed over.
        rows = (("new", "a", 1, 0), ("free", 5), ("new", "b", 2, 0), ("new", "c", 3, 0))
        told = done(*rows, tells=("a", "b", "c"), heap=((5, 0, 0),), places=(5, 6, 8))
        self.assertEqual(told, ("ends", (6, 8, 1), ((1, 3, 0), (6, 1, 0), (8, 2, 0))))

    def test_all_are_taken_where_none_serves(self):
        rows = (("new", "a", 1, 0), ("free", 5), ("free", 7), ("new", "b", 2, 0))
        told = done(*rows, tells=("a", "b"), heap=((5, 0, 0), (7, 0, 0)), places=(5, 7))
        self.assertEqual(told, ("ends", (1, 2), ((1, 1, 0), (2, 2, 0))))

    def test_a_place_told_twice(self):
        rows = (("new", "a", 1, 0), ("free", "a"), ("new", "b", 2, 0), ("free", "b"), ("new", "c", 3, 0))
        self.assertEqual(done(*rows, tells=("a", "b", "c"), places=(5, 5))[1], (5, 5, 1))

    def test_the_least_address_where_no_cell_is(self):
        rows = (("free", 4), ("free", 2), ("new", "a", 0, 0), ("new", "b", 0, 0), ("new", "c", 0, 0))
        heap = tuple([(k, 0, 0) for k in range(1, 6)])
        self.assertEqual(done(*rows, tells=("a", "b", "c"), heap=heap)[1], (2, 4, 6))
        rows = (("new", "a", 0, 0), ("free", 3), ("new", "b", 0, 0), ("free", 1), ("free", 3), ("new", "c", 0, 0))
        self.assertEqual(done(*rows, tells=("a", "b", "c"), heap=heap)[1], (6, 3, 1))

    def test_a_freed_address_that_is_a_place(self):
        rows = (("new", "a", 0, 0), ("free", 1), ("new", "b", 0, 0), ("new", "c", 0, 0))
        self.assertEqual(done(*rows, tells=("a", "b", "c"), heap=((1, 0, 0),), places=(2, 1))[1], (2, 1, 3))

    def test_a_freed_address_is_not_kept_from(self):
        rows = (("new", "a", 1, 1), ("free", "a"), ("new", "b", 2, 2))
        self.assertEqual(done(*rows, tells=("a", "b")), ("ends", (1, 1), ((1, 2, 2),)))


class HandedIn(unittest.TestCase):

    def test_what_is_handed_in_stays(self):
        deeds = [REVERSE, deed("e", ("x",), (), rows=(("free", "x"),))]
        heap, places, numbers = ((1, 2, 0), (7, 5, 1)), (4, 5), (7,)
        before = copy.deepcopy((deeds, heap, places, numbers))
        for name in ("rev", "e"):
            self.assertEqual(run(deeds, name, numbers, heap, places=places)[0], "ends")
        self.assertEqual((deeds, heap, places, numbers), before)

    def test_kinds(self):
        told = run([REVERSE], "rev", (1,), ((1, 2, 0),))
        self.assertEqual([type(thing) for thing in (told,) + told], [tuple, str, tuple, tuple])

    def test_by_name(self):
        some = deed("d", ("x",), ("y",), rows=(("set", "y", "x"),))
        told = run(deeds=[some], name="d", numbers=(4,), heap=(), places=(1,), steps=1)
        self.assertEqual(told, ("ends", (4,), ()))

    def test_behind_the_star_by_name_alone(self):
        with self.assertRaises(TypeError):
            run([deed()], "d", (), (), ())

    def test_twice_the_same(self):
        some = [deed("d", rows=(("new", "a", 0, 0),))]
        self.assertEqual(run(some, "d", (), (), places=(5,)), run(some, "d", (), (), places=(5,)))


class Stop(Exception):
    """The end of a run, in the other reading of point 12."""


class Other:
    """Point 12 read once more: each row does those in it."""

    def __init__(self, deeds, heap, places, steps):
        self.deeds, self.places, self.steps = deeds, list(places), steps
        self.heap = {at: [worth, after] for at, worth, after in heap}

    def whole(self, name, numbers, deep):
        some = [one for one in self.deeds if one[0] == name][0]
        worths = dict.fromkeys(locals_of(some), 0)
        worths.update(zip(some[1], numbers))
        self.rows(some[5], worths, name, [0], deep)
        return tuple([worths[tell] for tell in some[2]])

    def rows(self, rows, worths, name, number, deep):
        for some in rows:
            self.row(some, worths, name, number, deep)

    def skip(self, rows, number):
        for some in rows:
            number[0] += 1
            for inner in {"if": some[4:6], "while": some[6:7]}.get(some[0], ()):
                self.skip(inner, number)

    def row(self, some, worths, name, number, deep):
        def of(term):
            return worths.get(term, term)
        at = number[0]
        if self.steps == 0:
            raise Stop("steps")
        self.steps -= 1
        number[0] += 1
        kind = some[0]
        if kind in ("if", "while"):
            holds = (of(some[1]) == of(some[3])) == (some[2] == "is")
            if kind == "if":
                for rows, now in ((some[4], holds), (some[5], not holds)):
                    if now:
                        self.rows(rows, worths, name, number, deep)
                    else:
                        self.skip(rows, number)
            elif holds:
                self.rows(some[6], worths, name, number, deep)
                number[0] = at
                self.row(some, worths, name, number, deep)
            else:
                self.skip(some[6], number)
        elif kind == "call":
            there = [one for one in self.deeds if one[0] == some[2]]
            if not there or (len(there[0][1]), len(there[0][2])) != (len(some[3]), len(some[1])):
                raise Stop("absent", some[2])
            if deep == 59:
                raise Stop("deep")
            worths.update(zip(some[1], self.whole(some[2], [of(term) for term in some[3]], deep + 1)))
        elif kind == "set":
            worths[some[1]] = of(some[2])
        elif kind == "new":
            while self.places and self.places[0] in self.heap:
                del self.places[0]
            free = self.places.pop(0) if self.places else min(set(range(1, len(self.heap) + 2)) - set(self.heap))
            self.heap[free] = [of(some[2]), of(some[3])]
            worths[some[1]] = free
        else:
            address = of(some[2 if kind == "get" else 1])
            if address not in self.heap:
                raise Stop("fault", name, at)
            if kind == "free":
                del self.heap[address]
            elif kind == "get":
                worths[some[1]] = self.heap[address][some[3] == "next"]
            else:
                self.heap[address][some[2] == "next"] = of(some[3])


def other_run(deeds, name, numbers, heap, places, steps):
    other = Other(deeds, heap, places, steps)
    try:
        told = other.whole(name, numbers, 0)
    except Stop as stop:
        return stop.args
    return ("ends", told, tuple([(at, *fields) for at, fields in sorted(other.heap.items())]))


class AgainstAnotherReading(unittest.TestCase):

    def test_many_runs(self):
        seen = {}
        for seed in range(3000):
            makers = [Maker(f"{seed}{name}") for name in "fgh"]
            deeds = [maker.deed(name) for maker, name in zip(makers, "fgh")][:random.Random(seed).randint(1, 3)]
            numbers = tuple([makers[1].any.randint(0, 4) for _ in deeds[0][1]])
            heap = makers[2].heap()
            places = tuple([makers[2].any.randint(1, 8) for _ in range(makers[2].any.randint(0, 4))])
            steps = makers[2].any.randint(1, 150)
            told = run(deeds, "f", numbers, heap, places=places, steps=steps)
            self.assertEqual(told, other_run(deeds, "f", numbers, heap, places, steps),
                             (deeds, numbers, heap, places, steps))
            seen[told[0]] = seen.get(told[0], 0) + 1
        self.assertGreater(min(seen[how] for how in ("ends", "fault", "absent", "steps")), 100, seen)
