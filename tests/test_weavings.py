"""Points 25 to 27: weavings."""

import copy
import random
import unittest

from cellvouch.machine import run
from cellvouch.weavings import weave, woven
from cellvouch.works import is_work
from tests.otherhands import other_woven
from tests.samples import NOTHING, REVERSE, Maker, both, cell, claim, deed, fork, hold, loop
from tests.shelf import DEEDS

LOCKS = [("k", NOTHING), ("m", claim(cell(1, "v", "n"))), ("o", NOTHING)]


def made(name, *rows, takes=(), tells=()):
    some = deed(name, takes, tells, rows=tuple(rows))
    assert is_work(some), some
    return some


def done(*rows, others=(), takes=(), tells=(), numbers=(), heap=(), locks=LOCKS, **more):
    """What woven returns of a work w with these rows."""
    works = [made("w", *rows, takes=takes, tells=tells)] + list(others)
    told = woven(works, locks, "w", numbers, heap, **more)
    assert weave(works, locks, "w", numbers, heap, **more) == told[0]
    return told


def sets(name, many, tells=("a",)):
    """A work that sets a so many times, to 1 and on."""
    return made(name, *[("set", "a", k + 1) for k in range(many)], tells=tells)


class DeedsAlone(unittest.TestCase):

    def heap(self, any_of):
        addresses = sorted(any_of.sample(range(1, 7), any_of.randint(0, 5)))
        return tuple([(at, any_of.randint(-2, 3), any_of.randint(0, 6)) for at in addresses])

    def test_as_run_tells(self):
        any_of = random.Random(5)
        counted = {}
        for seed in range(600):
            deeds = [Maker(any_of.random()).deed(name) for name in "fgh"]
            some = any_of.choice(deeds)
            numbers = tuple([any_of.randint(-1, 5) for _ in some[1]])
            heap, steps = self.heap(any_of), any_of.choice([1, 7, 60])
            places = tuple([any_of.randint(1, 9) for _ in range(any_of.randint(0, 4))])
            right = run(deeds, some[0], numbers, heap, places=places, steps=steps)
            for schedule in ((), tuple([any_of.randint(0, 9) for _ in range(any_of.randint(1, 30))])):
                told = weave(deeds, LOCKS, some[0], numbers, heap, schedule=schedule, places=places, steps=steps)
                self.assertEqual(told, right)
            counted[right[0]] = counted.get(right[0], 0) + 1
        self.assertEqual(sorted(counted), ["absent", "ends", "fault", "steps"])

    def test_the_shelf(self):
        any_of = random.Random(6)
        for seed in range(400):
            some = any_of.choice(DEEDS)
            numbers, heap = tuple([any_of.randint(0, 6) for _ in some[1]]), self.heap(any_of)
            right = run(DEEDS, some[0], numbers, heap)
            self.assertEqual(weave(DEEDS, [], some[0], numbers, heap, schedule=(4, 0, 9) * 9), right)

    def test_deep_as_run_tells(self):
        self.assertEqual(weave([made("w", ("call", (), "w", ()))], [], "w", (), ()), ("deep",))
        chain = [made("w" + "abcdefgh"[k % 8] + "abcdefgh"[k // 8], tells=("a",)) for k in range(8)]
        self.assertEqual(weave(chain, [], "waa", (), ()), ("ends", (0,), ()))

    def test_by_default_a_thousand_steps(self):
        some = made("w", loop(("set", "a", 0)))
        self.assertEqual(done(loop(test=(0, "is", 0)))[0], ("steps",))
        self.assertEqual(len(done(loop(test=(0, "is", 0)))[1]), 1000)
        self.assertEqual(run([some], "w", (), ()), weave([some], [], "w", (), ()))
        # Each of 499 cells takes a test and a get, and there are a set and a last test.
        heap = tuple([(k, 0, k + 1) for k in range(1, 499)]) + ((499, 0, 0),)
        walk = (("set", "a", "x"), loop(("get", "a", "a", "next"), test=("a", "isn't", 0)))
        for rows, right in ((walk, ("ends", (), heap)), (walk + (("set", "b", 0),), ("steps",))):
            self.assertEqual(weave([made("w", *rows, takes=("x",))], [], "w", (1,), heap), right)
            self.assertEqual(weave([made("w", *rows, takes=("x",))], [], "w", (1,), heap, steps=1001)[0], "ends")

    def test_by_name(self):
        told = weave(steps=9, heap=(), numbers=(0,), name="rev", locks=[], works=[REVERSE], places=(), schedule=())
        self.assertEqual(told, ("ends", (0,), ()))


class Boths(unittest.TestCase):

    def test_outs_and_terms(self):
        add = made("p", ("set", "a", "x"), ("set", "b", "y"), takes=("x", "y"), tells=("b", "a"))
        rows = (("set", "c", 7), both(("c", "e"), "p", ("c", 1), ("g", "h"), "p", ("c", "t")))
        told = done(*rows, others=[add], takes=("t",), tells=("c", "e", "g"), numbers=(5,))
        self.assertEqual(told[0], ("ends", (1, 7, 5), ()))
        told = done(*rows, others=[add], takes=("t",), tells=("g", "h"), numbers=(5,), schedule=(0, 0, 1, 1, 0))
        self.assertEqual(told[0], ("ends", (5, 7), ()))

    def test_outs_are_set_when_both_have_ended(self):
        rows = (("set", "a", 3), both(("a",), "p", ("a",), ("b",), "p", ("a",)))
        others = [made("p", ("set", "b", "x"), takes=("x",), tells=("b",))]
        self.assertEqual(done(*rows, others=others, tells=("a", "b"))[0], ("ends", (3, 3), ()))
        self.assertEqual(done(*rows, others=others, tells=("a", "b"), schedule=(0, 0, 1, 0))[0], ("ends", (3, 3), ()))

    def test_the_log(self):
        others = [sets("p", 2), sets("q", 1)]
        rows = (both(("b",), "p", (), ("c",), "q", ()), ("set", "d", "b"))
        told = done(*rows, others=others, tells=("b", "c", "d"))
        self.assertEqual(told, (("ends", (2, 1, 2), ()), (
            ((), "w", 0), ((0,), "p", 0), ((0,), "p", 1), ((1,), "q", 0), ((), "w", 1)), ()))
        told = done(*rows, others=others, schedule=(0, 1, 1, 5, 3))
        self.assertEqual(told[1], (((), "w", 0), ((1,), "q", 0), ((0,), "p", 0), ((0,), "p", 1), ((), "w", 1)))

    def test_boths_within_boths_and_calls(self):
        inner = made("i", both(("a",), "p", (), ("b",), "q", ()), tells=("a", "b"))
        call = made("c", ("call", ("a", "b"), "i", ()), tells=("b", "a"))
        others = [sets("p", 2), sets("q", 1), inner, call]
        rows = (both(("a", "b"), "i", (), ("c", "d"), "c", ()), ("call", ("a", "e"), "c", ()))
        told = done(*rows, others=others, tells=("b", "c", "d"), schedule=(0, 1, 1, 0, 3, 0, 2, 0))
        self.assertEqual(told[0], ("ends", (1, 1, 2), ()))
        self.assertEqual(told[1][:8], (
            ((), "w", 0), ((1,), "c", 0), ((1,), "i", 0), ((0,), "i", 0), ((1, 1), "q", 0), ((0, 0), "p", 0),
            ((1, 0), "p", 0), ((0, 0), "p", 1)))
        self.assertEqual(len(told[1]), 16)

    def test_without_rows(self):
        others = [made("e", tells=("a",)), made("f"), made("g", both(("a",), "e", (), ("b",), "e", ()))]
        told = done(both(("a",), "e", (), (), "f", ()), ("call", (), "g", ()), others=others, tells=("a",))
        self.assertEqual(told, (("ends", (0,), ()), (((), "w", 0), ((), "w", 1), ((), "g", 0)), ()))
        self.assertEqual(done(), (("ends", (), ()), (), ()))

    def test_a_work_twice_has_locals_twice(self):
        count = made("p", ("set", "b", "x"), ("set", "c", "b"), takes=("x",), tells=("c",))
        told = done(both(("a",), "p", (1,), ("b",), "p", (2,)), others=[count], tells=("a", "b"),
                    schedule=(0, 0, 1) * 3)
        self.assertEqual(told[0], ("ends", (1, 2), ()))


class Schedules(unittest.TestCase):

    def paths(self, schedule, many=3):
        """The paths of the hands that go, of three hands that set something."""
        others = [sets("p", many, tells=()), made("q", both((), "p", (), (), "p", ()))]
        told = done(both((), "p", (), (), "q", ()), others=others, schedule=schedule)
        self.assertEqual(told[0], ("ends", (), ()))
        return [path for path, _, _ in told[1]][2:]

    def test_behind_its_end_0(self):
        self.assertEqual(self.paths((0, 1)), [(0,)] * 3 + [(1, 0)] * 3 + [(1, 1)] * 3)
        self.assertEqual(self.paths((0, 1, 2)), [(1, 1)] + [(0,)] * 3 + [(1, 0)] * 3 + [(1, 1)] * 2)

    def test_the_rest(self):
        self.assertEqual(self.paths((9, 3, 3, 4, 5, 999999999)),
                         [(0,), (1, 0), (1, 1), (0,), (0,), (1, 0), (1, 0), (1, 1), (1, 1)])
        self.assertEqual(self.paths((0, 1) + (2,) * 4), [(1, 1)] * 3 + [(0,)] * 3 + [(1, 0)] * 3)
        self.assertEqual(self.paths((0, 1) + (2, 2, 2, 1, 1, 1)), [(1, 1)] * 3 + [(1, 0)] * 3 + [(0,)] * 3)

    def test_hands_that_wait_are_not_among_them(self):
        p = made("p", hold("k", ("set", "a", 1), ("set", "a", 2)))
        q = made("q", ("set", "a", 1), ("set", "a", 2), ("set", "a", 3), ("set", "a", 4))
        others = [p, q, made("r", both((), "p", (), (), "q", ()))]
        told = done(both((), "p", (), (), "r", ()), others=others, schedule=(0, 1, 0, 1, 1, 2, 0, 1))
        self.assertEqual([(path, row) for path, _, row in told[1]], [
            ((), 0), ((1,), 0), ((0,), 0), ((1, 1), 0), ((1, 1), 1), ((0,), 1), ((0,), 2), ((1, 1), 2),
            ((1, 0), 0), ((1, 0), 1), ((1, 0), 2), ((1, 1), 3)])


class Holds(unittest.TestCase):

    def test_taken_and_given_back(self):
        told = done(hold("k", ("set", "a", 1)), hold("k", ("set", "a", 2)), tells=("a",))
        self.assertEqual(told, (("ends", (2,), ()), (((), "w", 0), ((), "w", 1), ((), "w", 2), ((), "w", 3)), ()))

    def test_without_rows_in_one_step(self):
        told = done(hold("k", hold("m")), hold("k"))
        self.assertEqual(told, (("ends", (), ()), (((), "w", 0), ((), "w", 1), ((), "w", 2)), ()))

    def test_the_same_hand_waits_for_itself(self):
        told = done(("set", "a", 1), hold("k", ("set", "a", 2), hold("k", ("set", "a", 3))))
        self.assertEqual(told, (("still", (("w", 3),)), (((), "w", 0), ((), "w", 1), ((), "w", 2)), ((("w", 3),),)))
        inner = made("p", hold("k"))
        told = done(hold("k", ("call", (), "p", ())), others=[inner])
        self.assertEqual(told[::2], (("still", (("p", 0),)), ((("w", 1), ("p", 0)),)))

    def test_the_hand_above_holds_it(self):
        others = [made("p", hold("k")), sets("q", 1)]
        told = done(hold("k", both((), "p", (), ("a",), "q", ())), others=others)
        self.assertEqual(told[0], ("still", (("p", 0),)))
        self.assertEqual(told[1], (((), "w", 0), ((), "w", 1), ((1,), "q", 0)))
        self.assertEqual(told[2], ((("w", 1), ("p", 0)),))

    def test_given_back_behind_the_last_row_however_it_ends(self):
        for last in (fork(("set", "a", 1), test=(0, "is", 0)), fork(test=(0, "is", 0)), fork(), loop(), hold("m"),
                     hold("m", ("set", "a", 1)), ("call", (), "e", ()), both((), "e", (), (), "e", ()),
                     loop(("set", "a", 1), test=("a", "is", 0)), ("call", (), "f", ())):
            others = [made("e"), made("f", ("set", "a", 0)), made("p", hold("k", last)),
                      made("q", hold("k", ("set", "a", 0)))]
            told = done(hold("k", last), ("set", "b", 1), hold("k"), others=others)
            self.assertEqual(told[0], ("ends", (), ()), last)
            # Behind the last step of the hold the other hand can go on at once.
            steps = len(done(hold("k", last), others=others)[1])
            told = done(both((), "p", (), (), "q", ()), others=others, schedule=(0,) + (0,) * steps,
                        steps=1 + steps + 1)
            self.assertEqual(told[1][-1], ((1,), "q", 0), last)
            told = done(both((), "p", (), (), "q", ()), others=others, schedule=(0, 0) + (1,) * 9, steps=1 + steps)
            self.assertNotIn(((1,), "q", 0), told[1])

    def test_in_loops(self):
        told = done(("set", "a", 1), loop(hold("k", ("set", "a", 0)), test=("a", "is", 1)))
        self.assertEqual([row for _, _, row in told[1]], [0, 1, 2, 3, 1])

    def test_unlocked(self):
        self.assertEqual(done(("set", "a", 1), hold("z"), ("free", 1)), (("unlocked", "z"), (((), "w", 0),), ()))
        self.assertEqual(done(hold("k"), locks=[])[0], ("unlocked", "k"))
        told = done(both((), "p", (), (), "p", ()), others=[made("p", hold("z", ("set", "a", 1)))])
        self.assertEqual(told, (("unlocked", "z"), (((), "w", 0),), ()))

    def test_still_in_the_order_of_hands(self):
        p = made("p", hold("k", ("set", "a", 1), hold("m")))
        q = made("q", hold("m", ("set", "a", 1), ("set", "a", 2), hold("k")))
        told = done(both((), "p", (), (), "q", ()), others=[p, q], schedule=(0, 0, 1, 0, 1, 1))
        self.assertEqual(told[0], ("still", (("p", 2), ("q", 3))))
        self.assertEqual(told[2], ((("w", 0), ("p", 2)), (("w", 0), ("q", 3))))
        self.assertEqual(done(both((), "p", (), (), "q", ()), others=[p, q])[0], ("ends", (), ()))
        told = done(both((), "q", (), (), "p", ()), others=[p, q], schedule=(0, 0, 1, 0, 0, 0))
        self.assertEqual(told[0], ("still", (("q", 3), ("p", 2))))

    def test_still_of_hands_that_wait_for_one_lock(self):
        p, q = made("p", hold("k")), made("q", hold("k", hold("k")))
        r = made("r", both((), "p", (), (), "q", ()))
        told = done(both((), "p", (), (), "r", ()), others=[p, q, r], schedule=(0, 1, 2))
        self.assertEqual(told[0], ("still", (("p", 0), ("p", 0), ("q", 1))))
        self.assertEqual(told[2], ((("w", 0), ("p", 0)), (("w", 0), ("r", 0), ("p", 0)),
                                   (("w", 0), ("r", 0), ("q", 1))))


class Races(unittest.TestCase):

    kinds = (("get", "a", "x", "worth"), ("get", "a", "x", "next"), ("put", "x", "worth", 3), ("put", "x", "next", 3),
             ("free", "x"))

    def race(self, left, right, address=1, other=None, heap=((1, 0, 0), (2, 0, 0)), ahead=((), ()), **more):
        others = [made("p", *ahead[0], left, takes=("x",)), made("q", *ahead[1], right, takes=("x",))]
        other = address if other is None else other
        return done(both((), "p", (address,), (), "q", (other,)), others=others, heap=heap, **more)

    def test_at_once(self):
        for left in self.kinds:
            for right in self.kinds:
                told = self.race(left, right)
                if left[0] == right[0] == "get":
                    self.assertEqual(told[0][0], "ends")
                else:
                    self.assertEqual(told, (("race", ("p", 0), ("q", 0), 1), (((), "w", 0),),
                                            ((("w", 0), ("p", 0)), (("w", 0), ("q", 0)))))
                self.assertEqual(self.race(left, right, other=2)[0][0], "ends")

    def test_at_a_cell_that_is_not_there(self):
        for address in (3, 0, -1, 999999999):
            for left in self.kinds:
                told = self.race(left, ("put", "x", "next", 0), address)
                self.assertEqual(told[0], ("race", ("p", 0), ("q", 0), address))
            told = self.race(self.kinds[0], self.kinds[1], address)
            self.assertEqual(told[0], ("fault", "p", 0))

    def test_later(self):
        wait = (("set", "a", 0),) * 2
        for schedule, right in (((0, 0, 0), True), ((0, 0, 1, 0), True), ((0, 1, 0, 0), False), ((0, 1), False)):
            told = self.race(self.kinds[2], self.kinds[2], ahead=(wait, ()), schedule=schedule)
            self.assertEqual(told[0][0], "ends" if not right or 1 in schedule else "race", schedule)
        told = self.race(self.kinds[2], self.kinds[2], ahead=(wait, ()), schedule=(0, 0, 0))
        self.assertEqual(told, (("race", ("p", 2), ("q", 0), 1), (((), "w", 0), ((0,), "p", 0), ((0,), "p", 1)),
                                ((("w", 0), ("p", 2)), (("w", 0), ("q", 0)))))

    def test_a_new_touches_none(self):
        new = ("new", "a", 5, 5)
        for left, right in ((new, new), (new, ("put", "x", "worth", 1)), (("get", "a", "x", "next"), new)):
            self.assertEqual(self.race(left, right)[0][0], "ends")

    def test_the_left_one_first(self):
        p, q = made("p", ("get", "a", 1, "worth")), made("q", ("put", 1, "worth", 1))
        r = made("r", both((), "p", (), (), "q", ()))
        told = done(both((), "p", (), (), "r", ()), others=[p, q, r], heap=((1, 0, 0),), schedule=(0, 1))
        self.assertEqual(told[0], ("race", ("p", 0), ("q", 0), 1))
        self.assertEqual(told[2], ((("w", 0), ("p", 0)), (("w", 0), ("r", 0), ("q", 0))))
        told = done(both((), "q", (), (), "r", ()), others=[p, q, r], heap=((1, 0, 0),), schedule=(0, 1))
        self.assertEqual(told[0], ("race", ("q", 0), ("p", 0), 1))
        # The hand of q comes to its row last, and is the left one.
        s = made("s", both((), "r", (), (), "p", ()))
        told = done(both((), "s", (), (), "p", ()), others=[p, q, r, s], heap=((1, 0, 0),), schedule=(0, 0, 0))
        self.assertEqual(told[2], ((("w", 0), ("s", 0), ("r", 0), ("p", 0)), (("w", 0), ("s", 0), ("r", 0), ("q", 0))))

    def test_the_first_two_of_several_races(self):
        others = [made("p", ("get", "a", "x", "worth"), takes=("x",)), made("q", ("put", "x", "next", 0), takes=("x",)),
                  made("g", both((), "p", (1,), (), "p", (2,))), made("h", both((), "q", (2,), (), "q", (1,)))]
        told = done(both((), "g", (), (), "h", ()), others=others, heap=((1, 0, 0), (2, 0, 0)), schedule=(0, 0, 2))
        self.assertEqual(told[0], ("race", ("p", 0), ("q", 0), 1))
        self.assertEqual(told[2], ((("w", 0), ("g", 0), ("p", 0)), (("w", 0), ("h", 0), ("q", 0))))
        self.assertEqual([path for path, _, _ in told[1]], [(), (0,), (1,)])

    def test_ahead_of_steps_and_of_what_a_hand_meets(self):
        told = self.race(self.kinds[2], self.kinds[2], steps=1)
        self.assertEqual(told[0][0], "race")
        told = self.race(self.kinds[0], self.kinds[0], steps=1)
        self.assertEqual(told[0], ("steps",))
        others = [made("p", ("put", 1, "next", 0)), made("e", ("call", (), "nobody", ())), made("u", hold("z")),
                  made("r", both((), "p", (), (), "p", ())), made("f", ("free", 9))]
        for name in "euf":
            told = done(both((), name, (), (), "r", ()), others=others, heap=((1, 0, 0),), schedule=(0, 1))
            self.assertEqual(told[0][0], "race")
            told = done(both((), name, (), (), "r", ()), others=others, heap=((1, 0, 0),))
            self.assertIn(told[0][0], ("absent", "unlocked", "fault"))


class Sequence(unittest.TestCase):

    def test_stillness_ahead_of_steps(self):
        rows = (hold("k", hold("k")),)
        self.assertEqual(done(*rows, steps=1)[0], ("still", (("w", 1),)))
        self.assertEqual(done(("set", "a", 1), steps=1)[0], ("ends", (), ()))
        self.assertEqual(done(("set", "a", 1), ("set", "a", 1), steps=1), (("steps",), (((), "w", 0),), ()))

    def test_steps_ahead_of_what_a_hand_meets(self):
        for last, told in ((("call", (), "nobody", ()), ("absent", "nobody")), (hold("z"), ("unlocked", "z")),
                           (("free", 9), ("fault", "w", 1)), (("call", (), "w", ()), ("deep",))):
            rows = (("set", "a", 1), last)
            if told != ("deep",):
                self.assertEqual(done(*rows, steps=2)[0], told)
            self.assertEqual(done(*rows, steps=1)[0], ("steps",))
        rows = (("call", (), "w", ()),)
        self.assertEqual(done(*rows, steps=59)[0], ("steps",))
        self.assertEqual(done(*rows, steps=60)[0], ("deep",))

    def test_absent(self):
        p = made("p", takes=("x",), tells=("y",))
        for row, name in ((both((), "a", (), (), "b", ()), "a"), (both(("y",), "p", (1,), (), "b", ()), "b"),
                          (both((), "a", (), ("y",), "p", (1,)), "a"), (both((), "p", (1,), (), "b", ()), "p"),
                          (both(("y",), "p", (), (), "b", ()), "p"),
                          (both(("y",), "p", (1,), ("z",), "p", (1, 2)), "p"),
                          (("call", (), "p", (1,)), "p"), (("call", ("y",), "p", ()), "p")):
            self.assertEqual(done(row, others=[p]), (("absent", name), (), ()))
        self.assertEqual(done(both(("y",), "p", (1,), ("z",), "p", (1,)), others=[p])[0], ("ends", (), ()))

    def test_deep(self):
        w = made("w", both((), "w", (), (), "e", ()))
        e = made("e")
        told = woven([w, e], [], "w", (), ())
        self.assertEqual(told[0], ("deep",))
        self.assertEqual(len(told[1]), 59)
        self.assertEqual(told[1][58], ((0,) * 58, "w", 0))
        w = made("w", ("call", (), "v", ()))
        v = made("v", both((), "e", (), (), "w", ()))
        told = woven([w, v, e], [], "w", (), ())
        self.assertEqual((told[0], len(told[1])), (("deep",), 59))
        self.assertEqual(told[1][58], ((1,) * 29, "w", 0))

    def test_absent_ahead_of_deep(self):
        w = made("w", fork(both((), "w", ("x",), (), "w", (0,)), others=(("call", (), "nobody", ()),),
                           test=("x", "is", 0)),
                 takes=("x",))
        self.assertEqual(weave([w], [], "w", (0,), ()), ("deep",))
        w = made("w", both((), "w", (), (), "nobody", ()))
        self.assertEqual(weave([w], [], "w", (), ()), ("absent", "nobody"))

    def test_fault_in_a_hand(self):
        others = [made("p", ("set", "a", 1), ("get", "a", "x", "next"), takes=("x",))]
        told = done(both((), "p", (4,), (), "p", (5,)), others=others, schedule=(0, 1, 1), heap=((4, 0, 0),))
        self.assertEqual(told, (("fault", "p", 1), (((), "w", 0), ((1,), "p", 0)), ()))


class Places(unittest.TestCase):

    def test_one_list_serves_all_hands(self):
        others = [made("p", ("new", "a", "x", 0), ("new", "b", "x", 1), takes=("x",))]
        row = both((), "p", (7,), (), "p", (8,))
        for schedule, right in (((), {(7, 0): 5, (7, 1): 6, (8, 0): 2, (8, 1): 1}),
                                ((0, 1, 0, 1, 0), {(8, 0): 5, (7, 0): 6, (8, 1): 2, (7, 1): 1}),
                                ((0, 1, 1, 0), {(8, 0): 5, (8, 1): 6, (7, 0): 2, (7, 1): 1})):
            told = done(row, others=others, places=(5, 6, 5, 2), schedule=schedule)
            self.assertEqual({cell[1:]: cell[0] for cell in told[0][2]}, right)

    def test_in_the_sequence_of_steps(self):
        others = [made("p", ("new", "a", "x", 0), ("new", "b", "x", 1), takes=("x",))]
        row = both((), "p", (7,), (), "p", (8,))
        told = done(row, others=others, places=(9, 4, 4, 6), schedule=(0, 1, 0, 1, 0))
        self.assertEqual({cell[1:]: cell[0] for cell in told[0][2]}, {(8, 0): 9, (7, 0): 4, (8, 1): 6, (7, 1): 1})

    def test_a_place_that_was_freed(self):
        others = [made("p", ("free", 1)), made("q", ("new", "a", 5, 5))]
        row = both((), "p", (), (), "q", ())
        self.assertEqual(done(row, others=others, heap=((1, 0, 0),))[0], ("ends", (), ((1, 5, 5),)))
        self.assertEqual(done(row, others=others, heap=((1, 0, 0),), schedule=(0, 1))[0], ("ends", (), ((2, 5, 5),)))


class AgainstAnotherReading(unittest.TestCase):

    def test_made_works(self):
        any_of = random.Random(11)
        counted = {}
        for seed in range(2500):
            works = [Maker(any_of.random()).work(name) for name in "fgh"]
            some = any_of.choice(works)
            locks = any_of.sample(LOCKS, any_of.choice([2, 3, 3, 3]))
            addresses = sorted(any_of.sample(range(1, 7), any_of.randint(3, 6)))
            heap = tuple([(at, any_of.randint(0, 4), any_of.randint(0, 4)) for at in addresses])
            numbers = tuple([any_of.randint(0, 4) for _ in some[1]])
            schedule = tuple([any_of.randint(0, 9) for _ in range(any_of.choice([0, 10, 60]))])
            places = tuple([any_of.randint(1, 9) for _ in range(any_of.choice([0, 3]))])
            steps = any_of.choice([4, 60, 60])
            kept = copy.deepcopy((works, locks))
            told = woven(works, locks, some[0], numbers, heap, schedule=schedule, places=places, steps=steps)
            self.assertEqual(told, other_woven(works, locks, some[0], numbers, heap, schedule, places, steps))
            self.assertEqual(weave(works, locks, some[0], numbers, heap, schedule=schedule, places=places, steps=steps),
                             told[0])
            self.assertEqual((works, locks), kept)
            counted[told[0][0]] = counted.get(told[0][0], 0) + 1
        self.assertEqual(sorted(counted), ["absent", "ends", "fault", "race", "steps", "still", "unlocked"])
        self.assertGreater(min(counted.values()), 9, counted)

    def test_the_interface(self):
        one, other = claim(cell("x", "v", "n")), claim(cell("x", 5, "n"))
        put = ("p", ("x",), (), one, other, (("put", "x", "worth", 5),))
        bad = ("w", ("x",), (), one, other, (("both", (), "p", ("x",), (), "p", ("x",)),))
        self.assertEqual(weave([put, bad], [], "w", (1,), ((1, 0, 0),)), ("race", ("p", 0), ("p", 0), 1))
