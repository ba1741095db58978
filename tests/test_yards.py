"""Point 35: yards."""

import copy
import random
import unittest

from cellvouch.guards import guarded, owners
from cellvouch.judged import judged
from cellvouch.loosely import played_work
from cellvouch.refusals import NoLock, NoMark, NoRun, NoStart, NoWork, Over
from cellvouch.weavings import woven
from cellvouch.works import read_work
from cellvouch.yards import Yard
from tests.bending import bent_locks, bent_work
from tests.samples import NAMES, NOTHING, STRANGE, both, cell, claim, deed, fork, hold, loop, row, stretch
from tests.second import Dead
from tests.starting import drawn_start
from tests.test_guards import HAND, HELD, LEFT, LOCK, NOBODY, RIGHT, lock
from tests.test_loosely import written
from tests.workshelf import BY_NAME, LOCKS, WORKS

ONE, TWO = claim(cell(1, "v", "n")), claim(cell(2, "h", 0), stretch("h", 0, row("r")))
QUEER = [thing for thing in STRANGE if not isinstance(thing, str)] + ["", "zz", "a b", 7]


def caller(name, *called, **more):
    return deed(name, rows=tuple([("call", (), other, ()) for other in called]), **more)


def holder(name, *locks, **more):
    return deed(name, rows=tuple([hold(lock) for lock in locks]), **more)


def yard_of(works, locks=()):
    yard = Yard(locks)
    for work in works:
        yard.keep(work)
    return yard


class YardTest(unittest.TestCase):

    def kept(self, *works, locks=()):
        """A yard of these works, of which none is still to be returned as looked at."""
        yard = yard_of(works, locks)
        yard.looked()
        return yard

    def refused(self, kind, field, thing, call, *args, **more):
        with self.assertRaises(kind) as caught:
            call(*args, **more)
        self.assertIs(type(caught.exception), kind)
        if field is not None:
            self.assertIs(getattr(caught.exception, field), thing)


class Kept(YardTest):

    def test_none(self):
        yard = Yard()
        self.assertEqual((len(yard), yard.names(), yard.lock_names(), yard.looked()), (0, [], [], []))
        self.assertTrue(Yard([]) == yard and Yard(locks=()) == yard and not Yard([("k", NOTHING)]) == yard)

    def test_the_interface(self):
        yard = Yard([("l", claim(cell(1, "v", "n")))])
        kept = yard.keep(("q", (), (), NOTHING, NOTHING, (("hold", "l", (("put", 1, "worth", 5),)),)))
        run = yard.begin("q", (), ((1, 0, 0),))
        seen = [yard.hands(run), yard.go(run, 0), yard.owned(run), yard.go(run, 0)]
        self.assertEqual([kept, yard.judged("q"), run, seen, yard.outcome(run)], [
            None, None, 0, [(((), "q", 0, True),), ((), "q", 0), {1: ("hand", ())}, ((), "q", 1)],
            ("ends", (), ((1, 5, 0),))])

    def test_keep_and_drop(self):
        yard = Yard()
        self.assertIsNone(yard.keep(BY_NAME["inc"]))
        self.assertEqual((len(yard), yard.names(), yard.work("inc")), (1, ["inc"], BY_NAME["inc"]))
        self.assertIsNone(yard.keep(deed("inc")))
        self.assertEqual((len(yard), yard.work("inc")), (1, deed("inc")))
        self.assertIsNone(yard.drop("inc"))
        self.assertEqual((len(yard), yard.names(), "inc" in yard), (0, [], False))

    def test_locks(self):
        yard = Yard([("m", ONE), ("k", TWO)])
        self.assertEqual(yard.lock_names(), ["k", "m"])
        self.assertIsNone(yard.put_lock("l", NOTHING))
        self.assertEqual(yard.lock_names(), ["k", "l", "m"])
        self.assertIsNone(yard.take_lock("m"))
        self.assertIsNone(yard.put_lock("k", NOTHING))
        self.assertEqual(yard.lock_names(), ["k", "l"])
        self.assertTrue(yard == Yard([("l", NOTHING), ("k", NOTHING)]))

    def test_equal(self):
        works = [deed("a"), caller("b", "a")]
        yard = yard_of(works, LOCK)
        self.assertTrue(yard == yard_of(works[::-1], LOCK[::-1]))
        self.assertFalse(yard != yard_of(works, LOCK))
        self.assertFalse(yard == yard_of(works[:1], LOCK) or yard == yard_of(works, LOCK[:1]))
        self.assertFalse(yard == yard_of([deed("a", tells=("x",)), works[1]], LOCK))
        self.assertFalse(yard == yard_of(works, [LOCK[0], ("m", ONE)]))
        for thing in STRANGE + ({}, works):
            self.assertFalse(yard == thing)
        yard.begin("a", (), HELD)
        yard.looked()
        self.assertTrue(yard == yard_of(works, LOCK))

    def test_in(self):
        yard = yard_of([deed("a"), deed("none")])
        for thing in STRANGE + NAMES + ({}, ("a",)):
            self.assertIs(thing in yard, isinstance(thing, str) and thing in ("a", "none"), thing)

    def test_names_of_anything(self):
        yard = self.kept(deed("a"), locks=LOCK)
        for thing in QUEER:
            for call in (yard.drop, yard.work, yard.judged):
                self.refused(NoWork, "name", thing, call, thing)
            self.refused(NoLock, "name", thing, yard.take_lock, thing)
            self.refused(NoWork, "name", thing, yard.begin, thing, (), ())
        self.refused(NoLock, "name", "a", yard.take_lock, "a")
        self.refused(NoWork, "name", "k", yard.drop, "k")
        self.assertEqual((yard.names(), yard.lock_names(), yard.looked()), (["a"], ["k", "m"], []))

    def test_lists_and_what_is_handed_in(self):
        locks = list(LOCK)
        yard = Yard(locks)
        locks.append(("z", NOTHING))
        self.assertEqual(yard.lock_names(), ["k", "m"])
        yard.keep(deed("a"))
        for told in (yard.names, yard.lock_names):
            first = told()
            first.append("z")
            self.assertNotIn("z", told())
        yard.looked().append("z")
        self.assertEqual(yard.looked(), [])

    def test_by_name(self):
        yard = Yard(locks=LOCK)
        yard.keep(work=deed("a"))
        yard.keep(work=holder("b", "k"))
        self.assertEqual((yard.work(name="a"), yard.judged(name="a")), (deed("a"), None))
        yard.put_lock(claim=NOTHING, name="o")
        yard.take_lock(name="o")
        yard.drop(name="a")
        run = yard.begin(places=(9,), heap=HELD, numbers=(), name="b")
        self.assertEqual(yard.hands(run=run), (((), "b", 0, True),))
        self.assertEqual(yard.mark(run=run), 0)
        self.assertEqual(yard.fork(run=run), 1)
        self.assertEqual(yard.go(number=3, run=run), ((), "b", 0))
        self.assertEqual(yard.outcome(run=run), ("ends", (), HELD))
        self.assertIsNone(yard.back(mark=0, run=run))
        self.assertEqual((yard.path(run=run), yard.blamed(run=run)), ((), None))
        self.assertEqual(yard.owned(run=run), {1: lock("k"), 2: lock("m")})


class Looked(YardTest):

    def test_kept(self):
        yard = yard_of([deed("b"), deed("a")])
        self.assertEqual((yard.looked(), yard.looked()), (["a", "b"], []))
        yard.keep(deed("a"))
        self.assertEqual(yard.looked(), [])
        yard.keep(deed("a", rows=(("set", "x", 1),)))
        self.assertEqual(yard.looked(), ["a"])
        yard.keep(deed("a", rows=(("set", "x", 2),)))
        yard.keep(deed("a", rows=(("set", "x", 1),)))
        self.assertEqual(yard.looked(), ["a"])

    def test_callers(self):
        works = [deed("a"), caller("b", "a"), deed("c", rows=(both((), "e", (), (), "a", ()),)), caller("e", "b"),
                 deed("f", rows=(loop(hold("k", fork(others=(both((), "a", (), (), "e", ()),)))),))]
        yard = self.kept(*works)
        yard.keep(deed("a", rows=(("set", "x", 1),)))
        self.assertEqual(yard.looked(), ["a"])
        some = claim(("same", 1, 1))
        for changed in (deed("a", takes=("x",)), deed("a", tells=("x",)), deed("a", ahead=some),
                        deed("a", behind=some)):
            yard.keep(changed)
            self.assertEqual(yard.looked(), ["a", "b", "c", "f"])
        yard.drop("a")
        self.assertEqual(yard.looked(), ["b", "c", "f"])
        yard.keep(deed("a"))
        self.assertEqual(yard.looked(), ["a", "b", "c", "f"])
        yard.keep(caller("b", "a", behind=some))
        self.assertEqual(yard.looked(), ["b", "e"])
        yard.drop("e")
        self.assertEqual(yard.looked(), ["c", "f"])

    def test_of_itself(self):
        yard = self.kept(caller("a", "a"))
        yard.keep(caller("a", "a", behind=claim(("same", 1, 1))))
        self.assertEqual(yard.looked(), ["a"])
        yard.drop("a")
        self.assertEqual(yard.looked(), [])

    def test_what_is_dropped_is_not_returned(self):
        yard = yard_of([deed("a"), caller("b", "a")])
        yard.drop("a")
        self.assertEqual(yard.looked(), ["b"])
        yard.keep(deed("a"))
        yard.drop("b")
        self.assertEqual(yard.looked(), ["a"])

    def test_holders(self):
        works = [holder("a", "k"), holder("b", "m", "k"), deed("c", rows=(loop(fork(others=(hold("m", hold("k")),))),)),
                 caller("e", "a"), deed("f")]
        yard = self.kept(*works, locks=[("k", ONE), ("m", TWO)])
        yard.put_lock("k", ONE)
        self.assertEqual(yard.looked(), [])
        yard.put_lock("k", claim(cell(1, "n", "v")))
        self.assertEqual(yard.looked(), ["a", "b", "c"])
        yard.put_lock("m", NOTHING)
        self.assertEqual(yard.looked(), ["b", "c"])
        yard.take_lock("m")
        self.assertEqual(yard.looked(), ["b", "c"])
        yard.put_lock("m", NOTHING)
        self.assertEqual(yard.looked(), ["b", "c"])
        yard.put_lock("o", NOTHING)
        self.assertEqual(yard.looked(), [])
        yard.take_lock("k")
        self.assertEqual(yard.looked(), ["a", "b", "c"])
        yard.put_lock("k", NOTHING)
        yard.drop("a")
        self.assertEqual(yard.looked(), ["b", "c", "e"])

    def test_runs_and_verdicts_look_at_nothing(self):
        yard = self.kept(holder("a", "k"), locks=LOCK)
        yard.judged("a")
        yard.go(yard.begin("a", (), HELD), 0)
        self.assertEqual(yard.looked(), [])


class Verdicts(YardTest):

    def same_as_new(self, yard, works, locks):
        """The yard tells what one tells that is made anew of the same works and locks."""
        self.assertTrue(yard == yard_of(works, locks))
        for work in works:
            told, right = yard.judged(work[0]), judged(works, locks, work[0])
            self.assertEqual(told and told[0], right and right[0])
            if told is not None and told[0] == "loose":
                self.assertNotIn(played_work(works, locks, work[0], told[1]), (None, ("good",)))
            elif told is not None:
                self.assertEqual(told, right)

    def test_behind_edits(self):
        any_of = random.Random(31)
        looked = 0
        for k in range(60):
            works = {work[0]: work for work in any_of.sample(WORKS, 12)}
            locks = dict(LOCKS)
            yard = yard_of(list(works.values()), LOCKS)
            yard.looked()
            before = {name: yard.judged(name) for name in works}
            for _ in range(8):
                self.edit(any_of, yard, works, locks)
                told = yard.looked()
                looked += len(told)
                for name in works:
                    if name not in told:
                        self.assertEqual(yard.judged(name), before[name])
                self.same_as_new(yard, list(works.values()), list(locks.items()))
                before = {name: yard.judged(name) for name in works}
        self.assertGreater(looked, 300)

    def edit(self, any_of, yard, works, locks):
        """Some edit of the yard and of what it is to have then."""
        kind = any_of.choice(["keep", "keep", "keep", "drop", "put", "take"])
        if kind == "keep":
            work = bent_work(any_of, any_of.choice(WORKS)) if any_of.random() < 0.7 else any_of.choice(WORKS)
            works[work[0]] = work
            yard.keep(work)
        elif kind == "drop" and len(works) > 5:
            name = any_of.choice(sorted(works))
            del works[name]
            yard.drop(name)
        elif kind == "put":
            some = bent_locks(any_of, LOCKS) if any_of.random() < 0.6 else LOCKS
            name, claim_of = any_of.choice(some)
            locks[name] = claim_of
            yard.put_lock(name, claim_of)
        elif kind == "take" and locks:
            name = any_of.choice(sorted(locks))
            del locks[name]
            yard.take_lock(name)

    def test_told_anew(self):
        yard = yard_of([read_work(written(["hold k", "  free 9"]))], LOCK)
        for _ in range(2):
            told = yard.judged("d")[1]
            self.assertEqual(played_work([yard.work("d")], LOCK, "d", told), ("fault", 1))
            told[1]["x"] = 7
            told[3].clear()

    def test_each_kind(self):
        yard = yard_of([caller("a", "b"), holder("c", "k"), deed("e", rows=(("free", 1),))])
        self.assertEqual([yard.judged(name) for name in "ac"], [("absent", "b"), ("unlocked", "k")])
        self.assertEqual(yard.judged("e")[0], "loose")
        yard.keep(deed("b"))
        yard.put_lock("k", ONE)
        self.assertEqual([yard.judged(name) for name in "abc"], [None] * 3)


class Runs(YardTest):

    def test_begin_is_refused(self):
        yard = yard_of([read_work(written(["pass"], takes="x", ahead="cell x v n", behind="cell x v n"))], LOCK)
        self.refused(NoStart, None, None, yard.begin, "d", (1,), HELD)
        self.refused(NoStart, None, None, yard.begin, "d", (3,), HELD)
        self.refused(NoWork, "name", "z", yard.begin, "z", (3,), HELD)
        self.refused(NoRun, "asked", 0, yard.outcome, 0)
        # What was refused has used up no number.
        self.assertEqual(yard.begin("d", (3,), HELD + ((3, 0, 0),)), 0)
        self.refused(NoStart, None, None, yard.begin, "d", (4,), HELD)
        self.assertEqual(yard.begin("d", (3,), HELD + ((3, 0, 0),)), 1)

    def test_runs_of_anything(self):
        yard = yard_of([deed("a", rows=(("set", "x", 1),) * 3)])
        calls = (yard.hands, yard.outcome, yard.path, yard.owned, yard.blamed, yard.mark, yard.fork)
        for many in (0, 2):
            for thing in STRANGE + (2, -1, "0", (0,)):
                if thing in (0, 1) and not isinstance(thing, bool) and many:
                    continue
                for call in calls:
                    self.refused(NoRun, "asked", thing, call, thing)
                self.refused(NoRun, "asked", thing, yard.go, thing, 0)
                self.refused(NoRun, "asked", thing, yard.back, thing, 0)
            self.assertEqual([yard.begin("a", (), ()), yard.begin("a", (), ())] if not many else [0, 1], [0, 1])
        self.assertEqual((yard.path(0), yard.path(1), yard.hands(1)), ((), (), (((), "a", 0, True),)))

    def test_marks_of_anything(self):
        yard = yard_of([deed("a", rows=(("set", "x", 1),) * 3)])
        run, other = yard.begin("a", (), ()), yard.begin("a", (), ())
        for many in (0, 1):
            for thing in STRANGE + (1, -1, "0", (0,)):
                if thing == 0 and not isinstance(thing, bool) and many:
                    continue
                self.refused(NoMark, "asked", thing, yard.back, run, thing)
                self.refused(NoRun, "asked", 7, yard.back, 7, thing)
            if not many:
                self.assertEqual(yard.mark(run), 0)
        self.refused(NoMark, "asked", 0, yard.back, other, 0)

    def test_over(self):
        yard = yard_of([deed("a", rows=(("set", "x", 1),))])
        run = yard.begin("a", (), ())
        yard.go(run, 5)
        self.assertEqual((yard.outcome(run), yard.path(run)), (("ends", (), ()), (5,)))
        for number in (0, 5):
            self.refused(Over, "asked", run, yard.go, run, number)
        self.assertEqual(yard.path(run), (5,))
        self.refused(NoRun, "asked", True, yard.go, True, 0)
        again = yard.begin("a", (), ())
        self.assertEqual(again, 1)
        self.refused(NoRun, "asked", 1.0, yard.go, 1.0, 0)

    def test_outcomes_at_once(self):
        yard = yard_of([deed("a"), read_work(written(["pass"], name="b", behind="cell 9 1 1")),
                        read_work(written(["hold k", "  hold k", "    pass"], name="c"))], LOCK)
        run = yard.begin("a", (), HELD)
        self.assertEqual((yard.outcome(run), yard.hands(run), yard.path(run)), (("ends", (), HELD), (), ()))
        run = yard.begin("b", (), HELD)
        blame = ("blame", "b", (0, {}, (), []))
        self.assertEqual((yard.outcome(run), yard.blamed(run), yard.hands(run)), (blame, blame, ()))
        self.assertEqual((yard.owned(run), yard.path(run)), ({1: lock("k"), 2: lock("m")}, ()))
        run = yard.begin("c", (), HELD)
        self.assertIsNone(yard.outcome(run))
        self.assertEqual(yard.go(run, 0), ((), "c", 0))
        self.assertEqual((yard.outcome(run), yard.blamed(run)), (("still", (("c", 1),)), None))
        self.assertEqual((yard.hands(run), yard.owned(run)), ((((), "c", 1, False),), {1: HAND, 2: lock("m")}))
        self.refused(Over, "asked", run, yard.go, run, 0)

    def test_a_race_at_once(self):
        g = read_work(written(["put p worth 5"], name="g", takes="p"))
        yard = yard_of([read_work(written(["both - = g 9 ; - = g 9"])), g], LOCK)
        run = yard.begin("d", (), HELD)
        self.assertEqual(yard.go(run, 4), ((), "d", 0))
        blame = ("blame", "g", (0, {"p": 9}, (), []))
        self.assertEqual((yard.outcome(run), yard.blamed(run)), (blame, blame))
        self.assertEqual(yard.hands(run), (((0,), "g", 0, True), ((1,), "g", 0, True)))
        self.assertEqual((yard.owned(run), yard.path(run)), ({1: lock("k"), 2: lock("m")}, (4,)))
        self.refused(Over, "asked", run, yard.go, run, 0)

    def test_what_a_step_meets(self):
        f = read_work(written(["call - = f -"], name="f"))
        for rows, outcome in ((["set a 1", "call - = z -"], ("absent", "z")),
                              (["set a 1", "hold z", "  pass"], ("unlocked", "z")),
                              (["set a 1", "free 9"], ("blame", "d", (0, {}, (), []))),
                              (["set a 1", "both - = z - ; - = f -"], ("absent", "z"))):
            yard = yard_of([read_work(written(rows)), f], LOCK)
            run = yard.begin("d", (), HELD)
            self.assertEqual((yard.go(run, 1), yard.outcome(run)), (((), "d", 0), None))
            self.assertEqual((yard.go(run, 2), yard.outcome(run)), (((), "d", 1), outcome))
            self.assertEqual((yard.path(run), yard.hands(run)), ((1, 2), (((), "d", 1, True),)))
            self.assertEqual(yard.blamed(run), outcome if outcome[0] == "blame" else None)
            self.assertEqual(yard.owned(run), {1: lock("k"), 2: lock("m")})
            self.refused(Over, "asked", run, yard.go, run, 0)
        run = yard.begin("f", (), HELD)
        for _ in range(59):
            self.assertEqual((yard.go(run, 0), yard.outcome(run)), (((), "f", 0), None))
        self.assertEqual((yard.go(run, 0), yard.outcome(run)), (((), "f", 0), ("deep",)))

    def test_a_blamed_step_is_as_if_it_had_not_been_done(self):
        # The step ends a hold, a called work and a loop, each of which has changed by then.
        f = written(["new b 1 2", "hold k", "  put 1 worth 7", "  free 1"], name="f", tells="b", behind="cell b 1 2")
        yard = yard_of([read_work(written(["call a = f -", "free a"])), read_work(f)], LOCK)
        run = yard.begin("d", (), HELD)
        for row in range(4):
            self.assertEqual(yard.go(run, row)[2], max(0, row - 1))
        before = (yard.hands(run), yard.owned(run))
        self.assertEqual(before, ((((), "f", 3, True),), {1: HAND, 2: lock("m"), 3: HAND}))
        self.assertEqual(yard.go(run, 6), ((), "f", 3))
        blame = ("blame", "f", (0, {}, (), [3, (((1, 4, 5),), ())]))
        self.assertEqual((yard.outcome(run), yard.blamed(run), yard.path(run)), (blame, blame, (0, 1, 2, 3, 6)))
        self.assertEqual((yard.hands(run), yard.owned(run)), before)
        self.assertEqual(yard.mark(run), 0)
        other = yard.fork(run)
        for one in (run, other):
            yard.back(one, 0)
            self.assertEqual((yard.outcome(one), yard.path(one), yard.hands(one)), (blame, (0, 1, 2, 3, 6), before[0]))

    def test_hands(self):
        p, q = written(["hold k", "  put 1 worth 7"], name="p"), written(["both - = p - ; - = p -", "set a 1"],
                                                                         name="q")
        yard = yard_of([read_work(written(["set b 1", "both - = p - ; - = q -"])), read_work(p), read_work(q)], LOCK)
        run = yard.begin("d", (), HELD)
        seen = [yard.hands(run)]
        for number in (0, 0, 1, 2, 1, 0, 0, 0, 0):
            yard.go(run, number)
            seen.append(yard.hands(run))
        left = ((0,), "p", 0, True)
        self.assertEqual(seen, [
            (((), "d", 0, True),), (((), "d", 1, True),), (left, ((1,), "q", 0, True)),
            (left, ((1, 0), "p", 0, True), ((1, 1), "p", 0, True)),
            (((0,), "p", 0, False), ((1, 0), "p", 0, False), ((1, 1), "p", 1, True)),
            (left, ((1, 0), "p", 0, True)),
            (((0,), "p", 1, True), ((1, 0), "p", 0, False)), (((1, 0), "p", 0, True),), (((1, 0), "p", 1, True),),
            (((1,), "q", 1, True),)])
        self.assertEqual(yard.outcome(run), None)
        self.assertEqual((yard.go(run, 0), yard.outcome(run)[0], yard.hands(run)), (((1,), "q", 1), "ends", ()))

    def test_marks_back_and_forks(self):
        p = written(["set a 1", "set a 2"], name="p")
        yard = yard_of([read_work(written(["both - = p - ; - = p -", "set b 1"])), read_work(p)])
        run = yard.begin("d", (), ())
        self.assertEqual(yard.mark(run), 0)
        yard.go(run, 0)
        yard.go(run, 1)
        self.assertEqual((yard.mark(run), yard.mark(run)), (1, 2))
        there = yard.hands(run)
        other = yard.fork(run)
        self.assertEqual((other, yard.hands(other), yard.path(other)), (1, there, (0, 1)))
        yard.go(run, 1)
        yard.go(run, 0)
        yard.go(other, 0)
        self.assertEqual((yard.path(run), yard.path(other)), ((0, 1, 1, 0), (0, 1, 0)))
        self.assertEqual(yard.mark(other), 3)
        self.assertEqual(yard.mark(run), 3)
        yard.back(run, 1)
        self.assertEqual((yard.path(run), yard.hands(run)), ((0, 1), there))
        yard.back(run, 3)
        self.assertEqual(yard.path(run), (0, 1, 1, 0))
        yard.back(other, 3)
        self.assertEqual(yard.path(other), (0, 1, 0))
        yard.back(run, 0)
        self.assertEqual((yard.path(run), yard.hands(run)), ((), (((), "d", 0, True),)))
        for _ in range(6):
            yard.go(run, 0)
        self.assertEqual(yard.outcome(run), ("ends", (), ()))
        third = yard.fork(run)
        self.assertEqual((third, yard.outcome(third)), (2, ("ends", (), ())))
        self.assertEqual(yard.mark(run), 4)
        yard.back(run, 2)
        self.assertEqual((yard.outcome(run), yard.hands(run)), (None, there))
        self.refused(NoMark, "asked", 4, yard.back, other, 4)
        self.refused(NoMark, "asked", 4, yard.back, third, 4)
        yard.back(run, 4)
        self.assertEqual(yard.outcome(run), ("ends", (), ()))

    def test_works_and_locks_as_they_were(self):
        f = read_work(written(["put 1 worth 7"], name="f", ahead="cell 1 v n", behind="cell 1 7 n"))
        yard = yard_of([read_work(written(["hold k", "  call - = f -", "hold k", "  call - = f -"])), f], LOCK)
        run, other = yard.begin("d", (), HELD), yard.begin("d", (), HELD)
        yard.go(run, 0)
        mark = yard.mark(run)
        yard.keep(deed("f", rows=(("free", 9),)))
        yard.keep(deed("d"))
        yard.put_lock("k", claim(cell(9, "v", "n")))
        yard.take_lock("m")
        yard.drop("f")
        for _ in range(5):
            yard.go(run, 0)
        ends = ("ends", (), ((1, 7, 5), (2, 0, 0)))
        self.assertEqual((yard.outcome(run), yard.path(run)), (ends, (0,) * 6))
        yard.drop("d")
        third = yard.fork(other)
        for one in (other, third):
            for _ in range(6):
                yard.go(one, 1)
            self.assertEqual(yard.outcome(one), ends)
        yard.back(run, mark)
        self.assertEqual((yard.path(run), yard.owned(run)), ((0,), {1: HAND, 2: lock("m")}))
        self.refused(NoWork, "name", "d", yard.begin, "d", (), HELD)

    def test_owned(self):
        f = written(["hold k", "  put p worth 5"], name="f", takes="p", ahead="cell p v n", behind="cell p 5 n")
        text = written(["both - = f x ; - = f y"], takes="x y", ahead="cell x v n ; cell y w m",
                       behind="cell x 5 n ; cell y 5 m")
        yard = yard_of([read_work(text), read_work(f)], LOCK)
        run = yard.begin("d", (7, 8), HELD + ((7, 0, 0), (8, 0, 0), (9, 0, 0)))
        base = {1: lock("k"), 2: lock("m"), 9: NOBODY}
        told = [yard.owned(run)]
        for _ in range(3):
            yard.go(run, 1)
            told.append(yard.owned(run))
        within = {**base, 7: LEFT, 8: RIGHT}
        self.assertEqual(told, [{**base, 7: HAND, 8: HAND}, within, {**within, 1: RIGHT}, within])
        told[-1].clear()
        self.assertEqual(yard.owned(run), within)

    def test_dicts_and_lists_of_their_own(self):
        yard = yard_of([read_work(written(["hold k", "  free 9"], takes="x"))], LOCK)
        run = yard.begin("d", (3,), HELD)
        yard.go(run, 0)
        yard.go(run, 0)
        blame = ("blame", "d", (0, {"x": 3}, (), [(((1, 4, 5),), ())]))
        for _ in range(2):
            for told in (yard.outcome(run), yard.blamed(run)):
                self.assertEqual(told, blame)
                told[2][1].clear()
                told[2][3].clear()

    def test_places(self):
        some = deed("a", tells=("x",), behind=claim(cell("x", 1, 2)), rows=(("new", "x", 1, 2),))
        yard = yard_of([some])
        run, other = yard.begin("a", (), (), places=(7, 8)), yard.begin("a", (), ())
        for one, address in ((run, 7), (other, 1), (yard.fork(run), 7)):
            if yard.outcome(one) is None:
                yard.go(one, 0)
            self.assertEqual(yard.outcome(one), ("ends", (address,), ((address, 1, 2),)))

    def test_no_step_is_too_many(self):
        yard = yard_of([deed("a", rows=(loop(("set", "x", 1), test=(0, "is", 0)),))])
        run = yard.begin("a", (), ())
        for _ in range(3000):
            yard.go(run, 0)
        self.assertEqual((yard.outcome(run), len(yard.path(run)), yard.hands(run)), (None, 3000, (((), "a", 0, True),)))
        self.assertEqual(yard.mark(run), 0)
        yard.go(run, 0)
        yard.back(run, 0)
        self.assertEqual((len(yard.path(run)), yard.hands(run)), (3000, (((), "a", 0, True),)))


class Stepwise(YardTest):
    """Runs that are led by drawn numbers tell what weavings tell that are made anew of these."""

    def check(self, works, locks, name, numbers, heap, run_of):
        yard, run, places = run_of
        path = yard.path(run)
        more = {"schedule": path, "places": places, "steps": max(1, len(path))}
        right = guarded(works, locks, name, numbers, heap, **more)
        told, owned = yard.outcome(run), owners(works, locks, name, numbers, heap, **more)
        if path:
            self.assertEqual(told, None if right == ("steps",) else right)
            self.assertEqual(yard.owned(run), owned[-1])
        else:
            self.assertEqual(yard.owned(run), owned[0])
        self.assertEqual(yard.blamed(run), told if told is not None and told[0] == "blame" else None)

    def test_against_weavings(self):
        any_of = random.Random(41)
        counted = {}
        for k in range(220):
            works = [bent_work(any_of, work) if any_of.random() < 0.25 else work for work in WORKS]
            some = any_of.choice(works)
            try:
                numbers, heap = drawn_start(some, LOCKS, any_of)
            except Dead:
                continue
            kept = copy.deepcopy(works)
            yard, places = yard_of(works, LOCKS), tuple([any_of.randint(1, 12) for _ in range(any_of.randint(0, 3))])
            run = yard.begin(some[0], numbers, heap, places=places)
            self.check(works, LOCKS, some[0], numbers, heap, (yard, run, places))
            marks = []
            for _ in range(25):
                if yard.outcome(run) is not None and not marks:
                    break
                run = self.some_move(any_of, yard, run, marks)
                self.check(works, LOCKS, some[0], numbers, heap, (yard, run, places))
            told = yard.outcome(run)
            counted[told and told[0]] = counted.get(told and told[0], 0) + 1
            self.assertEqual(works, kept)
        self.assertGreater(counted["ends"], 20, counted)
        self.assertGreater(counted["blame"], 5, counted)

    def some_move(self, any_of, yard, run, marks):
        """A step, a mark, the way back to one, or a fork; told is the run with which it goes on."""
        draw = any_of.random()
        if draw < 0.1 and marks:
            mark, path = any_of.choice(marks)
            yard.back(run, mark)
            self.assertEqual(yard.path(run), path)
        elif draw < 0.2 and len(marks) < 16:
            marks.append((yard.mark(run), yard.path(run)))
        elif draw < 0.23:
            before = (yard.hands(run), yard.path(run), yard.outcome(run), yard.owned(run))
            run = yard.fork(run)
            self.assertEqual((yard.hands(run), yard.path(run), yard.outcome(run), yard.owned(run)), before)
        elif yard.outcome(run) is None:
            self.one_step(any_of, yard, run)
        return run

    def one_step(self, any_of, yard, run):
        hands, path = yard.hands(run), yard.path(run)
        ready = [hand for hand in hands if hand[3]]
        number = any_of.choice([0, 1, 2, 3, 7, 999999999])
        self.assertEqual(yard.go(run, number), ready[number % len(ready)][:3])
        self.assertEqual(yard.path(run), path + (number,))

    def test_the_log_is_that_of_the_plain_weaving(self):
        any_of = random.Random(42)
        for k in range(40):
            some = any_of.choice(WORKS)
            numbers, heap = drawn_start(some, LOCKS, any_of)
            yard = yard_of(WORKS, LOCKS)
            run, log = yard.begin(some[0], numbers, heap), []
            while yard.outcome(run) is None and len(log) < 60:
                log.append(yard.go(run, any_of.randint(0, 9)))
            told = woven(WORKS, LOCKS, some[0], numbers, heap, schedule=yard.path(run), steps=max(1, len(log)))
            self.assertEqual(told[1], tuple(log))
            if yard.outcome(run) is not None:
                self.assertEqual(told[0], yard.outcome(run))
