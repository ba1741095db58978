"""Points 28 to 30: guarded weavings, blame and owners."""

import copy
import random
import unittest

from cellvouch.guards import guarded, owners
from cellvouch.loosely import played_work
from cellvouch.refusals import NoStart
from cellvouch.rows import all_rows
from cellvouch.texts import show_deed
from cellvouch.weavings import weave
from cellvouch.works import read_locks, read_work
from tests.bending import bent_locks, bent_work
from tests.otherhands import other_guarded
from tests.samples import NOTHING, REVERSE, cell, claim
from tests.second import Dead
from tests.shelf import BY_NAME as DEEDS_BY_NAME
from tests.starting import drawn_start
from tests.test_loosely import written
from tests.workshelf import LOCKS, WORKS

LOCK = read_locks("lock k cell 1 v n\nlock m cell 2 h 0 ; row h 0 r")
HAND, NOBODY = ("hand", ()), ("nobody",)
LEFT, RIGHT = ("hand", (0,)), ("hand", (1,))
HELD = ((1, 4, 5), (2, 0, 0))


def lock(name):
    return ("lock", name)


class GuardTest(unittest.TestCase):

    def outcome(self, texts, numbers=(), heap=HELD, locks=LOCK, **more):
        """The outcome; what is blamed fails when it is played."""
        works = [read_work(text) for text in texts]
        told = guarded(works, locks, works[0][0], numbers, heap, **more)
        if told[0] == "blame":
            self.assertEqual(len(told), 3)
            how = played_work(works, locks, told[1], told[2])
            self.assertNotIn(how, (None, ("good",)))
            told = told + (how,)
        return told

    def blames(self, name, told, how, *texts, **more):
        self.assertEqual(self.outcome(texts, **more), ("blame", name, told, how))

    def ends(self, told, *texts, **more):
        self.assertEqual(self.outcome(texts, **more), told)
        works = [read_work(text) for text in texts]
        locks = more.pop("locks", LOCK)
        numbers, heap = more.pop("numbers", ()), more.pop("heap", HELD)
        self.assertEqual(weave(works, locks, works[0][0], numbers, heap, **more), told)

    def owned(self, texts, numbers=(), heap=HELD, locks=LOCK, **more):
        works = [read_work(text) for text in texts]
        return owners(works, locks, works[0][0], numbers, heap, **more)


class Start(GuardTest):

    def refused(self, text, numbers, heap, locks=LOCK):
        some = read_work(text)
        for told in (guarded, owners):
            with self.assertRaises(NoStart) as caught:
                told([some], locks, some[0], numbers, heap)
            self.assertIs(type(caught.exception), NoStart)

    def test_the_claim_ahead(self):
        text = written(["pass"], takes="x", ahead="row x 0 r", behind="row x 0 r")
        heap = HELD + ((5, 1, 6), (6, 2, 0), (9, 9, 9))
        self.ends(("ends", (), heap), text, numbers=(5,), heap=heap)
        self.ends(("ends", (), HELD), text, numbers=(0,))
        for number in (9, 4, -1, 7):
            self.refused(text, (number,), heap)

    def test_the_claims_of_locks(self):
        text = written(["pass"])
        self.ends(("ends", (), HELD), text)
        for heap in ((), HELD[:1], HELD[1:], ((1, 4, 5), (2, 0, 7)), ((1, 4, 5), (2, 3, 0)), ((1, 4, 5), (2, 2, 0))):
            self.refused(text, (), heap)
        self.ends(("ends", (), HELD[:1]), text, heap=HELD[:1], locks=LOCK[:1])
        self.ends(("ends", (), ()), text, heap=(), locks=[])
        self.refused(text, (), HELD, read_locks("lock k same 1 2"))

    def test_parts_that_overlap(self):
        text = written(["pass"], takes="x", ahead="cell x v n", behind="cell x v n")
        self.refused(text, (1,), HELD)
        self.refused(text, (2,), HELD)
        self.ends(("ends", (), HELD + ((3, 0, 0),)), text, numbers=(3,), heap=HELD + ((3, 0, 0),))
        self.refused(written(["pass"]), (), HELD, read_locks("lock k cell 1 v n\nlock m cell 1 v n"))
        self.refused(written(["pass"]), (), ((1, 2, 3), (2, 4, 0)),
                     read_locks("lock k cell 1 v n ; row v 0 r\nlock m cell 2 v n"))
        self.ends(("ends", (), HELD), written(["pass"]), locks=read_locks("lock k none\nlock m row 2 0 r"))

    def test_what_is_absent_is_asked_later(self):
        self.refused(written(["call - = nobody -"], ahead="cell 9 v n"), (), HELD)
        self.ends(("absent", "nobody"), written(["call - = nobody -"]))


class Plain(GuardTest):
    """A weaving without blame tells what the plain one tells."""

    def test_outcomes(self):
        self.ends(("ends", (4,), HELD), written(["hold k", "  get a 1 worth"], tells="a"))
        self.ends(("still", (("d", 1),)), written(["hold k", "  hold k", "    pass"]))
        self.ends(("steps",), written(["while 0 is 0", "  ahead none", "  behind none", "  pass"]))
        self.ends(("steps",), written(["set a 1", "set a 1"]), steps=1)
        self.ends(("unlocked", "z"), written(["set a 1", "hold z", "  pass"]))
        self.ends(("absent", "f"), written(["both - = e - ; - = f -"]), written(["pass"], name="e"))
        self.ends(("deep",), written(["call - = d -"]))
        self.ends(("ends", (), ()), written(["pass"]), heap=(), locks=[])

    def test_a_thousand_steps_by_default(self):
        text = written(["while 0 is 0", "  ahead none", "  behind none", "  pass"])
        self.assertEqual(len(self.owned([text], heap=(), locks=[])), 1001)
        # 4 sets and 6 calls, each of 15 sets and 6 calls, each of 24 sets.
        texts = [written(["set a 1"] * many + [f"call - = {name} -"] * 6, name=own)
                 for own, many, name in (("d", 4, "f"), ("f", 15, "g"))] + [written(["set a 1"] * 24, name="g")]
        self.ends(("ends", (), HELD), *texts)
        texts[0] += "\nset a 1"
        self.ends(("steps",), *texts)
        self.assertEqual(len(self.owned(texts)), 1001)
        self.assertEqual(len(self.owned([text], heap=(), locks=[], steps=3)), 4)

    def test_the_shelf(self):
        any_of = random.Random(2)
        for some in WORKS:
            for _ in range(20):
                numbers, heap = drawn_start(some, LOCKS, any_of)
                schedule = tuple([any_of.randint(0, 9) for _ in range(40)])
                more = {"schedule": schedule, "places": (30, 20, 3), "steps": 300}
                told = guarded(WORKS, LOCKS, some[0], numbers, heap, **more)
                self.assertEqual(told, weave(WORKS, LOCKS, some[0], numbers, heap, **more))
                self.assertIn(told[0], ("ends", "still", "steps"))

    def test_by_name(self):
        more = {"places": (), "steps": 5, "schedule": (1, 2), "heap": (), "numbers": (0,), "name": "rev", "locks": [],
                "works": [REVERSE]}
        self.assertEqual(guarded(**more), ("ends", (0,), ()))
        self.assertEqual(owners(**more), ({},) * 4)


class Blame(GuardTest):

    def test_a_fault(self):
        for row in ("free 9", "put 9 worth 1", "get a 9 next"):
            self.blames("d", (0, {}, (), []), ("fault", 1), written(["set a 1", row]), heap=HELD + ((9, 0, 0),))
            self.blames("d", (0, {}, (), []), ("fault", 1), written(["set a 1", row]))
            self.blames("d", (0, {}, (), []), ("fault", 1), written(["set a 1", row.replace("9", "1")]))
            self.blames("d", (0, {}, (), []), ("fault", 1), written(["set a 1", row.replace("9", "0")]))

    def test_an_end(self):
        self.blames("d", (0, {}, (), [3]), ("end", None), written(["new a 1 1"]))
        self.blames("d", (0, {"x": 7}, ((7, 1, 2),), []), ("end", None),
                    written(["put x worth 2"], takes="x", ahead="cell x v n", behind="cell x v n"), numbers=(7,),
                    heap=HELD + ((7, 1, 2),))
        self.blames("d", (0, {}, (), []), ("end", None), written(["pass"], tells="a", behind="same a 1"))
        self.ends(("ends", (1,), HELD), written(["set a 1"], tells="a", behind="same a 1"))

    def test_a_lack(self):
        f = written(["pass"], name="f", takes="p", ahead="cell p v n", behind="cell p v n")
        heap = HELD + ((9, 0, 0),)
        self.blames("d", (0, {}, (), []), ("lacks", 0), written(["call - = f 9"]), f, heap=heap)
        self.blames("d", (0, {}, (), []), ("lacks", 0), written(["both - = f 9 ; - = f 9"]), f, heap=heap)
        more = {"takes": "x", "ahead": "cell x v n", "behind": "cell x v n"}
        self.blames("d", (0, {"x": 9}, ((9, 0, 0),), []), ("lacks", 0), written(["both - = f x ; - = f x"], **more), f,
                    heap=heap, numbers=(9,))
        self.blames("d", (0, {"x": 9}, ((9, 0, 0),), []), ("lacks", 0), written(["both - = f x ; - = f 1"], **more), f,
                    heap=heap, numbers=(9,))
        loop = ["while 0 is 1", "  ahead cell 9 v n", "  behind none", "  pass"]
        self.blames("d", (0, {}, (), []), ("lacks", 0), written(loop), heap=heap)
        rows = ["hold k", "  free 1"]
        self.blames("d", (0, {}, (), [(((1, 4, 5),), ())]), ("lacks", 0), written(rows))

    def test_worths_and_draws_of_the_blamed_piece(self):
        f = written(["new a p 0"], name="f", takes="p", tells="a", behind="cell a p 0")
        rows = ["new b 3 x", "call c = f b", "hold k", "  put 1 worth 6", "  free c", "hold k", "  pass",
                "both e = f 1 ; g = f 2",
                "free 50"]
        told = (0, {"x": 7}, (), [3, (((4, 3, 0),), (4,)), (((1, 4, 5),), ()), (((1, 6, 5),), ()),
                                  (((4, 1, 0),), (4,)), (((5, 2, 0),), (5,))])
        self.blames("d", told, ("fault", 7), written(rows, takes="x"), f, numbers=(7,))

    def test_the_called_works_fault(self):
        f = written(["set a p", "free a"], name="f", takes="p")
        more = {"takes": "x", "ahead": "cell x v n", "behind": "cell x v n"}
        # The cell is one of the piece below.
        self.blames("f", (0, {"p": 9}, (), []), ("fault", 1), written(["call - = f x"], **more), f,
                    heap=HELD + ((9, 0, 0),), numbers=(9,))
        self.blames("f", (0, {"p": 9}, (), []), ("fault", 1), written(["both - = e - ; - = f x"], **more), f,
                    written(["set a 1"], name="e"), heap=HELD + ((9, 0, 0),), numbers=(9,))

    def test_the_called_works_end(self):
        f = written(["put p worth 5"], name="f", takes="p", ahead="cell p v n", behind="cell p v n")
        more = {"takes": "x y", "ahead": "cell x v n ; cell y w m", "behind": "cell x 5 n ; cell y 5 m"}
        heap = HELD + ((8, 5, 6), (9, 0, 0))
        told = (0, {"p": 9}, ((9, 0, 0),), [])
        for row in ("both - = f x ; - = f y", "both - = f y ; - = f x", "call - = f y"):
            self.blames("f", told, ("end", None), written([row], **more), f, heap=heap, numbers=(8, 9))

    def test_loops(self):
        rows = ["set a x", "while a isn't 0", "  ahead row a 0 p", "  behind none", "  get b a next", "  {}",
                "  set a b"]
        more = {"takes": "x", "ahead": "row x 0 r"}
        heap = HELD + ((5, 1, 6), (6, 2, 7), (7, 3, 0))
        text = written(rows, **more)
        self.ends(("ends", (), HELD), text.format("free a"), heap=heap, numbers=(5,))
        worths = {"x": 5, "r": (1, 2, 3), "a": 5, "b": 0}
        row = ((5, 1, 6), (6, 2, 7), (7, 3, 0))
        self.blames("d", (2, worths, row, [((), (0, 0))]), ("end", None), text.format("set b 0"), heap=heap,
                    numbers=(5,))
        self.blames("d", (2, worths, row, []), ("fault", 4), text.format("free b\n  free b"), heap=heap, numbers=(5,))
        self.blames("d", (2, {**worths, "a": 6, "b": 6}, row[1:], []), ("fault", 5),
                    text.format("free a\n  if a is 6\n    free 9\n  else\n    pass"), heap=heap, numbers=(5,))
        self.blames("d", (2, worths, row, []), ("lacks", 1), text.format("set b 3"), heap=heap, numbers=(5,))

    def test_a_loop_with_the_test_and_without(self):
        text = written(["while a is 0", "  ahead none", "  behind same a 2", "  set a {}"])
        self.blames("d", (1, {"a": 1}, (), []), ("end", None), text.format(1))
        self.ends(("ends", (), HELD), text.format(2))
        text = written(["while a is 0", "  ahead none", "  behind none", "  set a 1", "  free 9"])
        self.blames("d", (2, {"a": 0}, (), []), ("fault", 2), text)
        text = written(["while a is 0", "  ahead cell 1 v n", "  behind cell 1 v n", "  set a 1", "  free 1"])
        locks = LOCK[1:]
        self.blames("d", (0, {}, (), []), ("lacks", 0), text, locks=locks)
        text = text.replace("ahead none\nbehind none", "ahead cell 1 v n\nbehind cell 1 v n", 1)
        self.blames("d", (2, {"a": 0, "v": 4, "n": 5}, ((1, 4, 5),), []), ("lacks", 0), text, locks=locks)

    def test_ends_of_several_pieces_in_one_step(self):
        text = written(["while a isn't 2", "  ahead none", "  behind same a 2 ; same c 1", "  set c a", "  set a b",
                        "  set b 2"])
        # a and c go 0 0, 0 0, 2 0: pieces 2, 2, 1. The piece without the test ends first, and fails.
        self.blames("d", (1, {"a": 2, "b": 2, "c": 0}, (), []), ("end", None), text)
        text = written(["while a isn't 2", "  ahead same a w", "  behind same w 2", "  set a b", "  set b 2"])
        # The last piece is good; the one that was opened last of all others fails.
        self.blames("d", (2, {"a": 0, "b": 2}, (), [((), (2, 2))]), ("end", None), text)

    def test_ghosts_of_loops_around(self):
        inner = ["  set b 0", "  while b is 0", "    ahead cell a u m", "    behind cell a u m", "    set b 1",
                 "    {}",
                 "  get c a next", "  set a c"]
        text = written(["set a x", "while a isn't 0", "  ahead row a 0 p", "  behind row s 0 p ; same s 5"] + inner,
                       takes="x",
                       ahead="row x 0 r", behind="row x 0 r")
        works = [read_work(text.format("put a worth 9"))]
        heap = HELD + ((5, 1, 6), (6, 2, 0))
        told = guarded(works, LOCK, "d", (5,), heap)
        worths = {"x": 5, "r": (1, 2), "p": (1, 2), "a": 5, "b": 0, "c": 0}
        self.assertEqual(told, ("blame", "d", (4, worths, ((5, 1, 6),), [(((5, 9, 6),), (1,))])))
        self.assertEqual(played_work(works, LOCK, "d", told[2]), ("end", None))

    def test_behind_a_hold(self):
        rows = ["hold m", "  new c 5 0", "  put 2 worth c", "hold m", "  put 2 worth {}"]
        draws = [(((2, 0, 0),), ()), 3, (((2, 3, 0), (3, 5, 0)), ())]
        self.blames("d", (0, {}, (), draws), ("lacks", 3), written(rows).format(7))
        self.blames("d", (0, {}, (), draws), ("end", None), written(rows).format(0))
        f = written(["hold m", "  put 2 next 7"], name="f")
        self.blames("f", (0, {}, (), draws[:1]), ("lacks", 0), written(["set a 1", "both - = e - ; - = f -"]), f,
                    written(["hold k", "  put 1 worth 2"], name="e"))

    def test_first_of_all(self):
        # The called work's end goes ahead of what is below.
        f = written(["new a 0 0"], name="f")
        self.blames("f", (0, {}, (), [3]), ("end", None), written(["call - = f -"], behind="cell 9 1 1"), f)
        f = written(["set a 0"], name="f")
        self.blames("d", (0, {}, (), [((), ())]), ("end", None), written(["call - = f -"], behind="cell 9 1 1"), f)
        # The left hand ends first.
        f = written(["pass"], name="f", takes="p", tells="u", behind="same u p")
        self.blames("f", (0, {"p": 1}, (), []), ("end", None), written(["both a = f 1 ; b = f 2"]), f)

    def test_a_work_without_rows(self):
        text = written(["pass"], behind="cell 9 1 1")
        self.blames("d", (0, {}, (), []), ("end", None), text)
        self.assertEqual(self.owned([text]), ({1: lock("k"), 2: lock("m")},))

    def test_absent_unlocked_and_deep_go_ahead(self):
        needs = written(["pass"], name="f", ahead="cell 9 1 1")
        self.ends(("absent", "z"), written(["both - = f - ; - = z -"]), needs)
        self.ends(("absent", "f"), written(["call - = f 1"]), needs)
        self.blames("d", (0, {}, (), []), ("lacks", 0), written(["call - = f -"]), needs)
        self.ends(("unlocked", "z"), written(["hold z", "  free 9"]))
        down = written(["get m x next", "call - = d m"], takes="x", ahead="cell x v n ; row n 0 r",
                       behind="cell x v n ; row n 0 r")
        for many in (59, 60):
            heap = HELD + tuple([(k, 0, k + 1) for k in range(11, 10 + many)]) + ((10 + many, 7, 0),)
            if many == 60:
                self.ends(("deep",), down, heap=heap, numbers=(11,))
            else:
                self.blames("d", (0, {"x": 69}, ((69, 7, 0),), []), ("lacks", 1), down, heap=heap, numbers=(11,))
        self.ends(("steps",), written(["set a 1", "free 9"]), steps=1)

    def test_told_anew(self):
        works = [read_work(written(["hold k", "  free 9"], takes="x"))]
        kept = copy.deepcopy(works)
        for _ in range(2):
            told = guarded(works, LOCK, "d", (3,), HELD)
            self.assertEqual(told, ("blame", "d", (0, {"x": 3}, (), [(((1, 4, 5),), ())])))
            told[2][1].clear()
            told[2][3].clear()
        self.assertEqual(works, kept)


class Races(GuardTest):

    put = written(["put p worth 5"], name="f", takes="p", ahead="cell p v n", behind="cell p 5 n")
    bare = written(["put p worth 5"], name="g", takes="p")
    get = written(["get a p worth"], name="h", takes="p", ahead="cell p v n", behind="cell p v n")
    more = {"takes": "x", "ahead": "cell x v n", "behind": "cell x 5 n"}
    heap = HELD + ((9, 0, 0),)

    def test_which_of_the_two_is_blamed(self):
        for row, name, told in (
                ("both - = f x ; - = g x", "g", (0, {"p": 9}, (), [])),
                ("both - = g x ; - = f x", "g", (0, {"p": 9}, (), [])),
                ("both - = g x ; - = e x", "g", (0, {"p": 9}, (), [])),
                ("both - = e x ; - = g x", "e", (0, {"p": 9}, (), []))):
            self.blames(name, told, ("fault", 0), written([row], **self.more), self.put, self.bare,
                        self.bare.replace("deed g", "deed e"), heap=self.heap, numbers=(9,))
            works = [read_work(text) for text in (written([row], **self.more), self.put, self.bare,
                                                  self.bare.replace("deed g", "deed e"))]
            self.assertEqual(weave(works, LOCK, "d", (9,), self.heap)[0], "race")

    def test_the_one_that_has_not_the_cell_whoever_goes_next(self):
        for schedule in ((), (0, 0), (0, 1)):
            self.blames("g", (0, {"p": 9}, (), []), ("fault", 0), written(["both - = f x ; - = g x"], **self.more),
                        self.put,
                        self.bare, heap=self.heap, numbers=(9,), schedule=schedule)

    def test_a_race_ahead_of_steps_and_of_what_a_hand_meets(self):
        told = ("blame", "g", (0, {"p": 9}, (), []), ("fault", 0))
        texts = [written(["both - = f x ; - = g x"], **self.more), self.put, self.bare]
        self.assertEqual(self.outcome(texts, numbers=(9,), heap=self.heap, steps=1), told)
        three = [written(["both - = a - ; - = i x"], **self.more), self.put, self.bare,
                 written(["call - = z -"], name="a"),
                 written(["both - = f x ; - = g x"], name="i", **self.more)]
        self.assertEqual(self.outcome(three, numbers=(9,), heap=self.heap, schedule=(0, 1)), told)
        self.assertEqual(self.outcome(three, numbers=(9,), heap=self.heap), ("absent", "z"))

    def test_one_row_further_alone(self):
        # The draws of the blamed piece are told up to the row at which it stands.
        late = written(["new b 7 7", "put p worth 5", "free b"], name="g", takes="p")
        self.blames("g", (0, {"p": 9}, (), [3]), ("fault", 1), written(["both - = f x ; - = g x"], **self.more),
                    self.put,
                    late, heap=self.heap, numbers=(9,), schedule=(0, 1))

    def test_two_that_read_are_no_race(self):
        bare = self.get.replace("deed h", "deed i").replace("cell p v n", "none")
        texts = [written(["both - = h x ; - = i x"], **{**self.more, "behind": "cell x v n"}), self.get, bare]
        self.assertEqual(self.outcome(texts, numbers=(9,), heap=self.heap),
                         ("blame", "i", (0, {"p": 9}, (), []), ("fault", 0)))
        texts[0] = texts[0].replace("h x ; - = i x", "i x ; - = h x")
        self.assertEqual(self.outcome(texts, numbers=(9,), heap=self.heap)[:2], ("blame", "i"))

    def test_a_cell_that_is_not_there(self):
        self.blames("g", (0, {"p": 50}, (), []), ("fault", 0), written(["both - = g 50 ; - = g 50"]), self.bare)

    def test_a_cell_of_a_free_lock_and_of_nobody(self):
        for number in (1, 2, 9):
            self.blames("g", (0, {"p": number}, (), []), ("fault", 0),
                        written([f"both - = g {number} ; - = e {number}"]), self.bare,
                        self.bare.replace("deed g", "deed e"), heap=self.heap)

    def test_the_interface(self):
        one, other = claim(cell("x", "v", "n")), claim(cell("x", 5, "n"))
        put = ("p", ("x",), (), one, other, (("put", "x", "worth", 5),))
        bad = ("w", ("x",), (), one, other, (("both", (), "p", ("x",), (), "p", ("x",)),))
        self.assertEqual(guarded([put, bad], [], "w", (1,), ((1, 0, 0),)),
                         ("blame", "w", (0, {"x": 1}, ((1, 0, 0),), [])))


class Owners(GuardTest):

    def test_the_interface(self):
        some = ("q", (), (), NOTHING, NOTHING, (("hold", "l", (("put", 1, "worth", 5),)),))
        locks = [("l", claim(cell(1, "v", "n")))]
        self.assertEqual(owners([some], locks, "q", (), ((1, 0, 0), (7, 0, 0))), (
            {1: lock("l"), 7: NOBODY}, {1: HAND, 7: NOBODY}, {1: lock("l"), 7: NOBODY}))

    def test_new_and_free(self):
        rows = ["new a 0 0", "free a", "new a 0 0", "free x"]
        more = {"takes": "x", "tells": "a", "ahead": "cell x v n", "behind": "cell a v n"}
        base = {1: lock("k"), 2: lock("m"), 6: NOBODY}
        told = self.owned([written(rows, **more)], numbers=(5,), heap=HELD + ((5, 0, 0), (6, 0, 0)))
        self.assertEqual(told, ({**base, 5: HAND}, {**base, 3: HAND, 5: HAND}, {**base, 5: HAND},
                                {**base, 3: HAND, 5: HAND},
                                {**base, 3: HAND}))

    def test_calls_and_loops_change_nothing(self):
        rev = show_deed(DEEDS_BY_NAME["rev"])
        heap = HELD + ((5, 0, 6), (6, 0, 0), (7, 0, 0))
        told = self.owned([written(["call y = rev x"], takes="x", tells="y", ahead="row x 0 r", behind="row y 0 ~r"),
                           rev],
                          numbers=(5,), heap=heap)
        self.assertEqual(told, ({1: lock("k"), 2: lock("m"), 5: HAND, 6: HAND, 7: NOBODY},) * len(told))
        self.assertEqual(len(told), 14)

    def test_the_two_ends_of_a_both(self):
        f = written(["set a 1", "put p worth 5"], name="f", takes="p", ahead="cell p v n", behind="cell p 5 n")
        text = written(["both - = f x ; - = f y", "set a 1"], takes="x y", ahead="cell x v n ; cell y w m ; cell 7 u l",
                       behind="cell x 5 n ; cell y 5 m ; cell 7 u l")
        base = {1: lock("k"), 2: lock("m")}
        heap = HELD + ((5, 0, 0), (6, 0, 0), (7, 0, 0))
        first, within = {**base, 5: HAND, 6: HAND, 7: HAND}, {**base, 5: LEFT, 6: RIGHT, 7: HAND}
        for schedule in ((), (0, 0, 1, 0, 1), (0, 1, 1, 0, 0)):
            told = self.owned([text, f], numbers=(5, 6), heap=heap, schedule=schedule)
            # What the one hand has stays its own until the other one has ended, too.
            self.assertEqual(told, (first,) + (within,) * 4 + (first,) * 2)

    def test_boths_within_one_another(self):
        f = written(["set a 1"], name="f", takes="p", ahead="cell p v n", behind="cell p v n")
        g = written(["both - = f p ; - = f q"], name="g", takes="p q", ahead="cell p v n ; cell q w m",
                    behind="cell p v n ; cell q w m")
        text = written(["both - = f x ; - = g y z"], takes="x y z", ahead="cell x v n ; cell y w m ; cell z a b",
                       behind="cell x v n ; cell y w m ; cell z a b")
        heap = ((5, 0, 0), (6, 0, 0), (7, 0, 0))
        told = self.owned([text, f, g], numbers=(5, 6, 7), heap=heap, locks=[], schedule=(0, 1, 1, 1, 0))
        inner = {5: LEFT, 6: ("hand", (1, 0)), 7: ("hand", (1, 1))}
        self.assertEqual(told, ({5: HAND, 6: HAND, 7: HAND}, {5: LEFT, 6: RIGHT, 7: RIGHT}, inner, inner,
                                {5: LEFT, 6: RIGHT, 7: RIGHT}, {5: HAND, 6: HAND, 7: HAND}))

    def test_the_two_ends_of_a_hold(self):
        rows = ["hold m", "  get h 2 worth", "  new c 0 h", "  put 2 worth c", "  hold k", "    pass", "set a 1"]
        heap = HELD[:1] + ((2, 8, 0), (8, 0, 0), (9, 0, 0))
        told = self.owned([written(rows)], heap=heap)
        free = {1: lock("k"), 2: lock("m"), 8: lock("m"), 9: NOBODY}
        taken = {1: lock("k"), 2: HAND, 8: HAND, 9: NOBODY}
        self.assertEqual(told, (free, taken, taken, {**taken, 3: HAND}, {**taken, 3: HAND}, {**free, 3: lock("m")},
                                {**free, 3: lock("m")}))

    def test_a_hold_in_a_hand(self):
        f = written(["hold k", "  put 1 worth 7"], name="f")
        told = self.owned([written(["both - = f - ; - = f -"]), f], schedule=(0, 1))
        self.assertEqual([some[1] for some in told], [lock("k"), lock("k"), RIGHT, lock("k"), LEFT, lock("k")])
        self.assertEqual([some[2] for some in told], [lock("m")] * 6)

    def test_none_for_a_step_that_is_blamed(self):
        base = {1: lock("k"), 2: lock("m")}
        self.assertEqual(self.owned([written(["set a 1", "free 9"])]), (base, base))
        self.assertEqual(self.owned([written(["set a 1", "set a 2"], behind="same 1 2")]), (base, base))
        self.assertEqual(self.owned([written(["set a 1", "hold k", "  free 1"])]),
                         (base, base, {1: HAND, 2: lock("m")}))
        f = written(["put p worth 5"], name="f", takes="p")
        self.assertEqual(self.owned([written(["both - = f 9 ; - = f 9"]), f]), (base, base))
        self.assertEqual(self.owned([written(["both - = f - ; - = f -"]),
                                     written(["pass"], name="f", behind="same 1 2")]),
                         (base,))

    def test_none_for_a_step_that_is_not_done(self):
        base = {1: lock("k"), 2: lock("m")}
        for rows in (["set a 1", "call - = z -"], ["set a 1", "hold z", "  pass"]):
            self.assertEqual(self.owned([written(rows)]), (base, base))
        self.assertEqual(self.owned([written(["set a 1"] * 5)], steps=2), (base,) * 3)
        held = {1: HAND, 2: lock("m")}
        self.assertEqual(self.owned([written(["hold k", "  hold k", "    pass"])]), (base, held))

    def test_dicts_of_their_own(self):
        told = self.owned([written(["set a 1", "set a 2"])])
        told[0].clear()
        self.assertEqual(told[1], {1: lock("k"), 2: lock("m")})


class AgainstAnotherReading(GuardTest):

    def test_the_shelf_and_bent_ones(self):
        any_of = random.Random(14)
        counted = {}
        for k in range(3500):
            works, locks = list(WORKS), any_of.sample(LOCKS, any_of.choice([2, 3, 3, 3]))
            for _ in range(any_of.choice([0, 1, 2, 4, 6])):
                at = any_of.randrange(len(works))
                works[at] = bent_work(any_of, works[at])
            if any_of.random() < 0.2:
                locks = bent_locks(any_of, locks)
            some = any_of.choice(works)
            try:
                numbers, heap = drawn_start(some, locks, any_of)
            except Dead:
                numbers, heap = tuple([any_of.randint(0, 5) for _ in some[1]]), ((1, 0, 0), (2, 0, 0), (3, 0, 0))
            more = {"schedule": tuple([any_of.randint(0, 9) for _ in range(any_of.choice([0, 10, 80]))]),
                    "places": tuple([any_of.randint(1, 9) for _ in range(any_of.choice([0, 3]))]),
                    "steps": any_of.choice([10, 120, 120])}
            how = self.same(works, locks, some[0], numbers, heap, more)
            counted[how] = counted.get(how, 0) + 1
        self.assertGreater(min(counted[how] for how in ("fault", "lacks", "end", "ends", "steps", "none")), 15, counted)

    def same(self, works, locks, name, numbers, heap, more):
        """Both readings tell the same; told is how it comes out."""
        kept = copy.deepcopy((works, locks))
        right = other_guarded(works, locks, name, numbers, heap, **more)
        if right is None:
            for told in (guarded, owners):
                with self.assertRaises(NoStart):
                    told(works, locks, name, numbers, heap, **more)
            return "none"
        told = guarded(works, locks, name, numbers, heap, **more)
        self.assertEqual(told, right[0])
        self.assertEqual(owners(works, locks, name, numbers, heap, **more), right[1])
        self.assertEqual((works, locks), kept)
        if told[0] != "blame":
            self.assertEqual(told, weave(works, locks, name, numbers, heap, **more))
            return told[0]
        how = played_work(works, locks, told[1], told[2])
        self.assertNotIn(how, (None, ("good",)))
        return how[0]


class Promise(GuardTest):

    def test_where_no_hold_and_no_new_are_done(self):
        any_of = random.Random(15)
        counted = 0
        for k in range(600):
            works = [bent_work(any_of, work) if any_of.random() < 0.1 else work for work in WORKS
                     if not [row for row in all_rows(work[5]) if row[0] in ("hold", "new")]]
            some = any_of.choice([work for work in works if [row for row in all_rows(work[5]) if row[0] == "both"]])
            try:
                numbers, heap = drawn_start(some, LOCKS, any_of)
            except Dead:
                continue
            ends = []
            for _ in range(6):
                schedule = tuple([any_of.randint(0, 9) for _ in range(60)])
                ends.append(guarded(works, LOCKS, some[0], numbers, heap, schedule=schedule,
                                    places=(any_of.randint(1, 9),)))
            if [told for told in ends if told[0] == "ends"]:
                self.assertEqual(ends, ends[:1] * 6)
                counted += 1
        self.assertGreater(counted, 100)

    def test_free_locks_have_their_parts_and_the_rest_is_as_it_was(self):
        any_of = random.Random(16)
        for k in range(300):
            some = any_of.choice(WORKS)
            numbers, heap = drawn_start(some, LOCKS, any_of)
            schedule = tuple([any_of.randint(0, 9) for _ in range(60)])
            told = guarded(WORKS, LOCKS, some[0], numbers, heap, schedule=schedule)
            owned = owners(WORKS, LOCKS, some[0], numbers, heap, schedule=schedule)
            if told[0] == "ends":
                nobody = [cell for cell in heap if owned[0][cell[0]] == NOBODY]
                self.assertEqual([cell for cell in told[2] if owned[-1][cell[0]] == NOBODY], nobody)
                self.assertEqual(sorted(owned[-1]), [cell[0] for cell in told[2]])
