"""Point 34: the order of locks, and rings."""

import copy
import itertools
import random
import unittest

from cellvouch.orders import may_take, order_or_ring
from cellvouch.rows import all_rows
from cellvouch.weavings import woven
from cellvouch.works import is_work, read_work, show_work
from tests.samples import NOTHING, Maker, both, claim, cell, deed, fork, hold, loop
from tests.test_loosely import written
from tests.workshelf import LOCKS, WORKS


def locks_of(names):
    return [(name, NOTHING) for name in names]


def made(name, *rows, **more):
    some = deed(name, rows=tuple(rows), **more)
    assert is_work(some), some
    return some


def call(name):
    return ("call", (), name, ())


def callees(works, row):
    """The works that a row calls and that are there."""
    calls = {"call": [row[1:]], "both": [row[1:4], row[4:7]]}.get(row[0], [])
    return [name for outs, name, terms in calls if name in works
            and (len(works[name][1]), len(works[name][2])) == (len(terms), len(outs))]


def within(works, name, here):
    """The places of the rows within a hold."""
    row = all_rows(works[name][5])[here]
    return [(name, here + 1 + k) for k in range(len(all_rows(row[2])))]


def taken_within(works, places):
    """All locks that may be taken at these places, or in what is called there; found place by place."""
    found, seen, going = set(), set(), list(places)
    while going:
        name, here = going.pop()
        if (name, here) in seen:
            continue
        seen.add((name, here))
        row = all_rows(works[name][5])[here]
        if row[0] == "hold":
            found.add(row[1])
        for other in callees(works, row):
            going.extend([(other, k) for k in range(len(all_rows(works[other][5])))])
    return found


class OrderTest(unittest.TestCase):

    def check(self, works, locks):
        """What is told is an order, or a ring, and there is no other; told is which of them."""
        kept = copy.deepcopy((works, locks))
        told = order_or_ring(works, locks)
        self.assertEqual((works, locks), kept)
        by_name = {work[0]: work for work in works}
        names = [name for name, _ in locks]
        pairs = set()
        for name, work in by_name.items():
            for here, row in enumerate(all_rows(work[5])):
                if row[0] == "hold" and row[1] in names:
                    pairs |= {(row[1], other) for other in taken_within(by_name, within(by_name, name, here))}
        orders = [order for order in itertools.permutations(names)
                  if all([order.index(one) < order.index(other) for one, other in pairs if other in names])]
        if told[0] == "order":
            self.assertIn(told[1], orders)
        else:
            self.assertEqual((told[0], orders), ("ring", []))
            self.check_ring(by_name, names, told[1])
        self.assertEqual(len(told), 2)
        return told

    def check_ring(self, works, names, steps):
        self.assertIsInstance(steps, tuple)
        ring = [name for name, _ in steps]
        self.assertTrue(ring and len(set(ring)) == len(ring) and set(ring) <= set(names))
        for (lock, chain), (after, _) in zip(steps, steps[1:] + steps[:1]):
            rows = [all_rows(works[name][5])[here] for name, here in chain]
            self.assertEqual(rows[0][:2], ("hold", lock))
            self.assertEqual(rows[-1][:2], ("hold", after))
            self.assertGreater(len(chain), 1)
            self.assertIn(chain[1], within(works, *chain[0]))
            for k in range(1, len(chain) - 1):
                self.assertIn(chain[k + 1][0], callees(works, rows[k]))
            self.assertEqual(len(set(chain[:-1])), len(chain) - 1)
            self.assertNotIn(chain[-1], chain[1:-1])


class MayTake(unittest.TestCase):

    def test_the_interface(self):
        one = ("a", (), (), NOTHING, NOTHING, (("hold", "l", (("hold", "m", ()),)),))
        told = [order_or_ring([one], locks_of("lm")), may_take([one], locks_of("ml"))]
        self.assertEqual(told, [("order", ("l", "m")), {"a": ("l", "m")}])
        self.assertEqual(may_take(locks=locks_of("ml"), works=[one]), {"a": ("l", "m")})
        self.assertEqual(order_or_ring(locks=locks_of("lm"), works=[one]), ("order", ("l", "m")))

    def test_holds_at_any_place(self):
        works = [made("a", fork(hold("k"), others=(loop(hold("m")),))), made("b", hold("k", hold("m", hold("l")))),
                 made("c"),
                 made("d", hold("z"))]
        self.assertEqual(may_take(works, locks_of("mkl")),
                         {"a": ("k", "m"), "b": ("k", "l", "m"), "c": (), "d": ()})
        self.assertEqual(may_take(works, locks_of("l")), {"a": (), "b": ("l",), "c": (), "d": ()})
        self.assertEqual(may_take(works, []), {"a": (), "b": (), "c": (), "d": ()})

    def test_through_calls_and_boths(self):
        works = [made("a", fork(others=(call("b"),))), made("b", both((), "c", (), (), "d", ())), made("c", hold("m")),
                 made("d", loop(call("d")), hold("k"))]
        right = {"a": ("k", "m"), "b": ("k", "m"), "c": ("m",), "d": ("k",)}
        for order in itertools.permutations(works):
            self.assertEqual(may_take(list(order), locks_of("mkl")), right)

    def test_works_that_call_themselves(self):
        works = [made("a", call("b")), made("b", call("a"), hold("k")), made("c", call("c")),
                 made("d", call("c"), call("d"))]
        self.assertEqual(may_take(works, locks_of("k")), {"a": ("k",), "b": ("k",), "c": (), "d": ()})

    def test_works_that_are_not_there(self):
        works = [made("a", call("b"), call("z")), ("b", ("x",), (), NOTHING, NOTHING, (hold("k"),)),
                 made("c", both((), "z", (), (), "b", (1,))), made("d", ("call", ("y",), "b", (1,)))]
        self.assertEqual(may_take(works, locks_of("k")), {"a": (), "b": ("k",), "c": ("k",), "d": ()})

    def test_a_dict_of_its_own(self):
        works = [made("a", hold("k"))]
        may_take(works, locks_of("k")).clear()
        self.assertEqual(may_take(works, locks_of("k")), {"a": ("k",)})

    def test_made_works(self):
        for seed in range(300):
            any_of = random.Random(seed)
            works = [Maker(any_of.random()).work(name) for name in "fgh"]
            by_name = {work[0]: work for work in works}
            names = any_of.sample("kmo", any_of.randint(0, 3))
            told = may_take(works, locks_of(names))
            self.assertEqual(list(told), [work[0] for work in works])
            for name, work in by_name.items():
                found = taken_within(by_name, [(name, k) for k in range(len(all_rows(work[5])))])
                self.assertEqual(told[name], tuple(sorted(found & set(names))))


class Orders(OrderTest):

    def test_without_locks_or_works(self):
        self.assertEqual(order_or_ring([], []), ("order", ()))
        self.assertEqual(self.check([made("a", hold("k", hold("k")))], []), ("order", ()))
        self.assertEqual(self.check([], locks_of("mk"))[0], "order")
        self.assertEqual(self.check([made("a")], locks_of("k")), ("order", ("k",)))

    def test_an_order_of_all(self):
        works = [made("a", hold("m", hold("k"))), made("b", hold("k", call("c"))), made("c", fork(hold("l")))]
        for names in itertools.permutations("klm"):
            self.assertEqual(self.check(works, locks_of(names)), ("order", ("m", "k", "l")))

    def test_one_behind_the_other_asks_nothing(self):
        works = [made("a", hold("k"), hold("m"), hold("k"))]
        self.assertEqual(self.check(works, locks_of("km"))[0], "order")

    def test_a_ring_of_one(self):
        self.assertEqual(self.check([made("a", ("set", "x", 1), hold("k", ("set", "x", 1), hold("k")))],
                                    locks_of("mk")),
                         ("ring", (("k", (("a", 1), ("a", 3))),)))
        self.assertEqual(self.check([made("a", hold("k", call("b"))), made("b", hold("k"))], locks_of("k")),
                         ("ring", (("k", (("a", 0), ("a", 1), ("b", 0))),)))

    def test_a_place_twice_is_the_last_one_alone(self):
        self.assertEqual(self.check([made("a", hold("k", call("a")))], locks_of("k")),
                         ("ring", (("k", (("a", 0), ("a", 1), ("a", 0))),)))
        works = [made("a", hold("k", call("b"))), made("b", call("b"), call("c")), made("c", call("b"), call("a"))]
        self.assertEqual(self.check(works, locks_of("k")), (
            "ring", (("k", (("a", 0), ("a", 1), ("b", 1), ("c", 1), ("a", 0))),)))

    def test_a_ring_of_two(self):
        works = [made("a", hold("k", hold("m"))), made("b", hold("m", both((), "c", (), (), "d", ()))), made("c"),
                 made("d", hold("k"))]
        told = self.check(works, locks_of("lmk"))
        self.assertEqual(sorted(told[1]), [("k", (("a", 0), ("a", 1))), ("m", (("b", 0), ("b", 1), ("d", 0)))])

    def test_a_ring_of_three(self):
        works = [made("a", hold("k", hold("m"))), made("b", hold("m", hold("l"))), made("c", hold("l", hold("k")))]
        for names in itertools.permutations("klm"):
            told = self.check(works, locks_of(names))
            self.assertEqual((told[0], len(told[1])), ("ring", 3))
        self.assertEqual(self.check(works, locks_of("km"))[0], "order")
        self.assertEqual(self.check(works[:2], locks_of("klm")), ("order", ("k", "m", "l")))

    def test_locks_that_are_not_in_the_list(self):
        works = [made("a", hold("z", hold("z", hold("k"))))]
        self.assertEqual(self.check(works, locks_of("k")), ("order", ("k",)))
        works = [made("a", hold("k", hold("z", hold("k"))))]
        self.assertEqual(self.check(works, locks_of("k")), ("ring", (("k", (("a", 0), ("a", 2))),)))
        self.assertEqual(self.check(works, locks_of("z")), ("order", ("z",)))

    def test_works_that_are_not_there(self):
        works = [made("a", hold("k", call("z"), ("call", (), "b", (1,)))), made("b", hold("k"))]
        self.assertEqual(self.check(works, locks_of("k")), ("order", ("k",)))
        self.assertEqual(self.check([made("a", hold("k", both((), "z", (), (), "b", ()))), works[1]],
                                    locks_of("k"))[0], "ring")

    def test_works_ahead_and_behind_in_the_list(self):
        works = [made("a", hold("k", call("b"))), made("b", call("c")), made("c", hold("m", call("d"))),
                 made("d", hold("k"))]
        for order in itertools.permutations(works):
            self.assertEqual(self.check(list(order), locks_of("km"))[0], "ring")
        for order in itertools.permutations(works[:3]):
            self.assertEqual(self.check(list(order), locks_of("mk")), ("order", ("k", "m")))

    def test_rows_that_are_never_come_to(self):
        self.assertEqual(self.check([made("a", fork(hold("k", fork(hold("k")))))], locks_of("k"))[0], "ring")
        some = read_work(written(["hold k", "  hold k", "    pass"]))
        self.assertEqual(self.check([some], [("k", claim(cell(1, 2, 3)))])[0], "ring")

    def test_the_shelf(self):
        told = self.check(WORKS, LOCKS)
        self.assertEqual(told[0], "ring")
        less = [work for work in WORKS if work[0] != "swap"]
        self.assertEqual(self.check(less, LOCKS), ("order", ("k", "m", "l")))

    def test_made_works(self):
        counted = {}
        for seed in range(800):
            any_of = random.Random(seed)
            works = [Maker(any_of.random()).work(name) for name in "fgh"[:any_of.randint(1, 3)]]
            told = self.check(works, locks_of(any_of.sample("kmo", any_of.randint(1, 3))))
            how = (told[0], len(told[1]))
            counted[how] = counted.get(how, 0) + 1
        self.assertGreater(counted[("order", 3)], 10, counted)
        self.assertGreater(counted[("ring", 1)], 10, counted)
        self.assertGreater(counted[("ring", 2)], 2, counted)


class Stillness(OrderTest):

    def test_where_a_weaving_stands_still_there_is_a_ring(self):
        any_of = random.Random(21)
        counted = {}
        for seed in range(2500):
            works = [Maker(any_of.random()).work(name) for name in "fgh"]
            locks = locks_of(any_of.sample("kmo", any_of.choice([2, 3])))
            some = any_of.choice(works)
            heap = tuple([(at, 1, 2) for at in range(1, 6)])
            schedule = tuple([any_of.randint(0, 9) for _ in range(40)])
            told, _, stacks = woven(works, locks, some[0], tuple([1 for _ in some[1]]), heap, schedule=schedule,
                                    steps=80)
            if told[0] == "still":
                self.assertEqual(order_or_ring(works, locks)[0], "ring")
                self.assertEqual(tuple([stack[-1] for stack in stacks]), told[1])
                self.check_stacks({work[0]: work for work in works}, stacks)
            counted[told[0]] = counted.get(told[0], 0) + 1
        self.assertGreater(counted["still"], 30, counted)

    def check_stacks(self, works, stacks):
        """A ring can be read off: each hand waits for a lock within whose hold some stack stands."""
        held = {}
        for stack in stacks:
            for name, here in stack:
                for other, row in enumerate(all_rows(works[name][5])):
                    if row[0] == "hold" and (name, here) in within(works, name, other):
                        held[row[1]] = True
        for stack in stacks:
            name, here = stack[-1]
            self.assertIn(all_rows(works[name][5])[here][1], held, show_work(works[name]))
