"""Point 33: verdicts of works."""

import copy
import random
import unittest

from cellvouch.deeds import names_called
from cellvouch.guards import guarded
from cellvouch.judged import judged
from cellvouch.loose import pieces
from cellvouch.loosely import played_work
from cellvouch.texts import show_deed
from cellvouch.verdicts import verdict
from cellvouch.works import is_work, read_locks, read_work, show_locks, show_work
from tests.bending import bent, bent_locks, bent_work
from tests.samples import NOTHING, deed
from tests.second import Dead, failing_run
from tests.shelf import BY_NAME as DEEDS_BY_NAME
from tests.shelf import DEEDS
from tests.starting import drawn_start
from tests.test_loosely import GOOD, written
from tests.workshelf import BY_NAME, LOCKS, WORKS, without_row

LOCK = read_locks("lock k cell 1 v n\nlock m cell 2 h 0 ; row h 0 r")


class JudgedTest(unittest.TestCase):

    def told(self, works, locks, name):
        """The verdict; where it tells a loose run, played_work tells that it fails."""
        told = judged(works, locks, name)
        if told is not None and told[0] == "loose":
            self.assertEqual(len(told), 2)
            how = played_work(works, locks, name, told[1])
            self.assertNotIn(how, (None, GOOD), (show_work({some[0]: some for some in works}[name]), told))
            self.assertIsInstance(told[1][1], dict)
            self.assertIsInstance(told[1][3], list)
        return told

    def accepts(self, *texts, locks=LOCK):
        works = [read_work(text) for text in texts]
        self.assertIsNone(self.told(works, locks, works[0][0]), texts[0])

    def fails(self, how, *texts, locks=LOCK):
        """The loose run that is told fails so."""
        works = [read_work(text) for text in texts]
        told = self.told(works, locks, works[0][0])
        self.assertIsNotNone(told, texts[0])
        self.assertEqual(played_work(works, locks, works[0][0], told[1]), how, texts[0])


class Sequence(JudgedTest):

    def test_the_interface(self):
        some = ("q", (), (), NOTHING, NOTHING, (("hold", "l", (("put", 1, "worth", 5),)),))
        locks = [("l", ((("cell", 1, "v", "n"),), ()))]
        self.assertEqual([judged([some], locks, "q"), judged([some], [], "q")], [None, ("unlocked", "l")])
        self.assertIsNone(judged(name="q", locks=locks, works=[some]))

    def test_absent_by_the_rows_as_they_are_numbered(self):
        e = written(["pass"], name="e")
        for rows, name in ((["free 9", "hold k", "  both - = a - ; - = b -", "call - = c -"], "a"),
                           (["both - = e - ; - = b -", "call - = c -"], "b"),
                           (["if 0 is 1", "  call - = c -", "else", "  both - = a - ; - = b -"], "c"),
                           (["hold z", "  call - = e -", "both - = e - ; - = a -"], "a"),
                           (["while 0 is 1", "  ahead none", "  behind none", "  call x = e -", "call - = a -"], "e"),
                           (["both - = e 1 ; - = a -"], "e"), (["both - = e - ; x = e -"], "e")):
            works = [read_work(written(rows)), read_work(e)]
            self.assertEqual(judged(works, LOCK, "d"), ("absent", name), rows)

    def test_absent_ahead_of_unlocked_ahead_of_loose_runs(self):
        some = written(["hold z", "  free 9", "call - = a -"])
        self.assertEqual(judged([read_work(some)], LOCK, "d"), ("absent", "a"))
        e = read_work(written(["pass"], name="a"))
        self.assertEqual(judged([read_work(some), e], LOCK, "d"), ("unlocked", "z"))
        self.assertEqual(judged([read_work(some), e], LOCK + [("z", NOTHING)], "d")[0], "loose")

    def test_unlocked_by_the_rows_as_they_are_numbered(self):
        rows = ["hold k", "  if 0 is 1", "    hold y", "      pass", "  else", "    hold z", "      pass"]
        some = read_work(written(rows))
        self.assertEqual(judged([some], LOCK, "d"), ("unlocked", "y"))
        self.assertEqual(judged([some], LOCK[:1] + [("y", NOTHING)], "d"), ("unlocked", "z"))
        self.assertEqual(judged([some], LOCK[1:], "d"), ("unlocked", "k"))
        self.assertIsNone(judged([some], LOCK[:1] + [("y", NOTHING), ("z", NOTHING)], "d"))

    def test_what_others_do_is_not_asked(self):
        bad = written(["free 9"], name="b")
        far = written(["call - = nobody -", "hold z", "  pass"], name="f")
        self.accepts(written(["both - = b - ; - = f -"]), bad, far)

    def test_told_anew(self):
        works = [read_work(written(["hold k", "  free 9"]))]
        kept = copy.deepcopy(works)
        first = judged(works, LOCK, "d")[1]
        first[1]["x"] = 1
        first[3].clear()
        self.assertEqual(played_work(works, LOCK, "d", judged(works, LOCK, "d")[1]), ("fault", 1))
        self.assertEqual(works, kept)


class Shelf(JudgedTest):

    def test_all_are_accepted(self):
        for name in BY_NAME:
            self.assertIsNone(self.told(WORKS, LOCKS, name), name)

    def test_with_a_row_less(self):
        counted = [0, 0]
        for some in WORKS:
            text = show_work(some)
            for row in range(3, text.count("\n") + 1):
                try:
                    less = read_work(without_row(text, row))
                except ValueError:
                    continue
                works = [less if other[0] == some[0] else other for other in WORKS]
                told = self.told(works, LOCKS, some[0])
                counted[told is None] += 1
                if told is None:
                    self.assertIsNone(failing_run(works, less, 200, text, LOCKS), text)
        self.assertGreater(min(counted), 10)

    def test_with_another_claim(self):
        for name, old, new, how in (
                ("revs", "row b 0 ~s", "row b 0 s", ("end", None)),
                ("revs", " ; b = rev y", " ; b = rev x", ("lacks", 0)),
                ("taker", "behind cell x 5 n", "behind cell x v n", ("end", None)),
                ("sum", "row f 0 p q", "row f 0 q p", ("end", None)),
                ("clear", "put 2 worth 0", "put 2 worth 7", ("lacks", 0)),
                ("pop", "  free h", "  free 2", ("lacks", 0)), ("pop", "if h is 0", "if h is 3", ("fault", 5)),
                ("push", "put c next h", "put c next 0", ("end", None)),
                ("inc", "put 1 worth x", "free 1", ("lacks", 0)),
                ("fan", "both - = fan n ; m = one x", "both - = fan x ; m = one x", ("lacks", 2)),
                ("move", "if a is b", "if a is 7", ("fault", 6)), ("takers", "both - = taker x ; - = taker y",
                                                                  "call - = taker x", ("end", None))):
            text = show_work(BY_NAME[name])
            self.assertIn(old, text)
            some = read_work(text.replace(old, new))
            works = [some if other[0] == name else other for other in WORKS]
            told = self.told(works, LOCKS, name)
            self.assertIsNotNone(told, (name, new))
            self.assertEqual(played_work(works, LOCKS, name, told[1]), how, (name, new))

    def test_with_another_lock(self):
        for name, old, new in (("inc", "cell 1 v n", "none"), ("inc", "cell 1 v n", "cell 1 7 n"),
                               ("push", "row h 0 r", "row h 0 r ; apart h 0 ; same h 3"),
                               ("pop", "cell 2 h 0 ; row h 0 r", "cell 2 h 0"), ("sum", "cell 1 v n", "cell 4 v n"),
                               ("clear", "cell 2 h 0 ; row h 0 r", "cell 2 h 1 ; row h 0 r")):
            locks = read_locks(show_locks(LOCKS).replace(old, new))
            self.assertNotEqual(locks, LOCKS)
            self.assertEqual(self.told(WORKS, locks, name)[0], "loose", (name, new))
        locks = read_locks(show_locks(LOCKS).replace("cell 1 v n", "cell 1 v n ; cell 5 a b"))
        self.assertIsNone(self.told(WORKS, locks, "inc"))


class Holds(JudgedTest):

    def test_rows(self):
        self.accepts(written(["hold k", "  put 1 worth 5"]))
        self.accepts(written(["hold k", "  pass"]))
        self.accepts(written(["hold k", "  get a 1 worth", "  put 1 next a", "hold k", "  put 1 worth a"]))
        self.fails(("fault", 1), written(["hold m", "  put 1 worth 5"]))
        self.fails(("fault", 1), written(["hold k", "  pass", "put 1 worth 5"]))
        self.fails(("fault", 0), written(["put 1 worth 5", "hold k", "  pass"]))

    def test_lacks(self):
        self.fails(("lacks", 1), written(["set a 1", "hold k", "  free 1"]))
        self.fails(("lacks", 0), written(["hold k", "  free 1", "  new a 0 0"]))
        self.fails(("lacks", 0), written(["hold m", "  put 2 worth 7"]))
        self.fails(("lacks", 0), written(["hold m", "  put 2 next 5"]))

    def test_end(self):
        self.fails(("end", None), written(["hold m", "  put 2 worth 0"]))
        self.fails(("end", None), written(["hold k", "  new a 0 0"]))
        self.accepts(written(["hold k", "  new a 0 0"], tells="a", behind="cell a 0 0"))
        self.accepts(written(["hold m", "  get a 2 worth", "  put 2 worth 0"], tells="a", behind="row a 0 r"))
        rows = ["hold m", "  get h 2 worth", "  call - = freeall h", "  put 2 worth x"]
        self.accepts(written(rows, takes="x", ahead="row x 0 s"), show_deed(DEEDS_BY_NAME["freeall"]))
        self.fails(("end", None), written(rows[:2] + rows[3:], takes="x", ahead="row x 0 s"))

    def test_the_rest_is_known(self):
        self.accepts(written(["hold k", "  get a x worth", "  put 1 worth a"], takes="x", ahead="cell x v n",
                             behind="cell x v n"))
        # The cell of the lock isn't that of the take.
        self.accepts(written(["hold k", "  if x is 1", "    free 9", "  else", "    pass"], takes="x",
                             ahead="cell x v n",
                             behind="cell x v n"))
        self.fails(("fault", 1), written(["if x is 1", "  free 9", "else", "  pass", "hold k", "  pass"], takes="x",
                                         ahead="cell x v n", behind="cell x v n"))

    def test_nothing_is_known_of_it_the_second_time(self):
        rows = ["hold k", "  put 1 worth 5", "hold k", "  get a 1 worth", "if a is 5", "  pass", "else", "  free 9"]
        self.fails(("fault", 5), written(rows))
        self.accepts(written(rows[:2] + ["  get a 1 worth"] + rows[4:]))
        self.accepts(written(rows), locks=read_locks("lock k cell 1 5 n"))

    def test_where_no_heap_can_come_in_no_piece_fails(self):
        held = {"takes": "x", "ahead": "cell 1 v n"}
        self.accepts(written(["hold k", "  free 9", "free 9"], **held))
        self.fails(("fault", 0), written(["free 9", "hold k", "  pass"], **held))
        self.accepts(written(["hold k", "  hold k", "    free 9"]))
        self.fails(("fault", 1), written(["hold k", "  free 9", "  hold k", "    pass"]))
        for text in ("lock k same 1 2", "lock k cell 1 2 3 ; cell 1 2 3", "lock k cell 0 1 2", "lock k cell -4 1 2",
                     "lock k row 0 5 r ; cell 5 1 1", "lock k cell 1 a b ; same a 4 ; apart a 4",
                     "lock k row 5 7 r ; cell 7 1 1 ; row 5 7 s"):
            locks = read_locks(text)
            self.accepts(written(["hold k", "  free 9", "free 9"]), locks=locks)
            self.fails(("fault", 1), written(["if x is 0", "  free 9", "else", "  hold k", "    free 8"], takes="x"),
                       locks=locks)
            self.fails(("end", None), written(["new a 0 0", "if x is 0", "  hold k", "    free 8", "else", "  pass"],
                                              takes="x"), locks=locks)

    def test_a_hold_of_an_empty_claim_twice(self):
        self.accepts(written(["hold k", "  hold k", "    pass"]), locks=read_locks("lock k none"))
        self.fails(("fault", 2), written(["hold k", "  hold k", "    free 9"]), locks=read_locks("lock k none"))

    def test_within_one_another(self):
        rows = ["hold k", "  get a 1 worth", "  hold m", "    get b 2 worth", "    put 1 worth b"]
        self.accepts(written(rows))
        self.fails(("lacks", 2), written(rows + ["    put 2 worth a"]))
        self.fails(("fault", 5), written(rows + ["  put 2 worth b"]))
        self.fails(("lacks", 2), written(["hold k", "  new c 0 9", "  hold m", "    put 2 worth c"]))
        self.fails(("end", None), written(["hold k", "  new c 0 0", "  hold m", "    put 2 worth c"]))

    def test_in_loops(self):
        rows = ["set a 1", "while a is 1", "  ahead none", "  behind none", "  hold k", "    get a 1 worth"]
        self.accepts(written(rows))
        self.fails(("lacks", 2), written(rows + ["    free 1"]))
        self.fails(("end", None), written(rows[:3] + ["  behind same a 1"] + rows[4:]))
        rows = ["hold m", "  get a 2 worth", "  while a isn't 0", "    ahead row a 0 p", "    behind none",
                "    get b a next", "    free a", "    set a b", "  put 2 worth 0"]
        self.accepts(written(rows))
        self.fails(("lacks", 0), written(rows[:-1]))
        self.fails(("lacks", 2), written(rows[:1] + ["  set a 4"] + rows[2:]))

    def test_locals_of_a_loop_that_holds_and_boths_set(self):
        f = written(["pass"], name="f", tells="u", behind="same u 3")
        rows = ["set a 3", "while 0 is 1", "  ahead none", "  behind none", "  {}", "if a is 3", "  pass", "else",
                "  free 9"]
        self.accepts(written([row.format("set b 1") for row in rows]))
        for inner, at in (("hold k\n    set a 3", 5), ("both a = f - ; b = f -", 4), ("both b = f - ; a = f -", 4)):
            self.fails(("fault", at), written([row.format(inner) for row in rows]), f)


class Boths(JudgedTest):

    f = written(["pass"], name="f", takes="p", tells="u", ahead="cell p v n", behind="cell u n v")
    two = {"takes": "x y", "tells": "a b", "ahead": "cell x v n ; cell y w m", "behind": "cell a n v ; cell b m w"}

    def test_both(self):
        self.accepts(written(["both a = f x ; b = f y"], **self.two), self.f)
        self.accepts(written(["both b = f y ; a = f x"], **self.two), self.f)
        self.fails(("end", None), written(["both b = f x ; a = f y"], **self.two), self.f)
        self.fails(("lacks", 0), written(["both a = f x ; b = f x"], **self.two), self.f)
        self.fails(("lacks", 0), written(["both a = f 4 ; b = f y"], **self.two), self.f)
        self.fails(("lacks", 0), written(["both a = f x ; b = f y"],
                                         **{**self.two, "ahead": "cell x v n", "behind": "none"}),
                   self.f)

    def test_parts_have_no_cell_in_common(self):
        tail = written(["pass"], name="t", takes="p", ahead="row p 0 r", behind="row p 0 r")
        more = {"takes": "x y", "ahead": "row x y r ; row y 0 s", "behind": "row x y r ; row y 0 s"}
        self.fails(("lacks", 0), written(["both - = t x ; - = t y"], **more), tail)
        self.fails(("end", None), written(["both - = t x ; - = t 0"], **more), tail)
        self.accepts(written(["both - = t 0 ; - = t x"], takes="x", ahead="row x 0 r", behind="row x 0 r"), tail)
        self.accepts(written(["both - = t x ; - = t y"], takes="x y", ahead="row x 0 r ; row y 0 s",
                             behind="row x 0 r ; row y 0 s"), tail)
        self.accepts(written(["both - = t x ; - = t x"], takes="x", ahead="row x 0 r ; same x 0"), tail)

    def test_all_goes_out_ahead_of_all_that_comes_in(self):
        gives, needs = written(["pass"], name="g", behind="cell 7 0 0"), written(["pass"], name="h", ahead="cell 7 v n")
        self.fails(("lacks", 0), written(["both - = g - ; - = h -"]), gives, needs)
        self.fails(("lacks", 0), written(["both - = h - ; - = g -"]), gives, needs)
        self.accepts(written(["both - = h - ; - = g -"], ahead="cell 7 1 1", behind="cell 7 0 0"), gives, needs)
        self.accepts(written(["call - = g -", "call - = h -"]), gives, needs)

    def test_where_no_heap_can_come_in(self):
        gives = written(["pass"], name="g", behind="cell 7 0 0")
        self.accepts(written(["both - = g - ; - = g -", "free 9"]), gives)
        never = written(["pass"], name="n", behind="same 1 2")
        self.accepts(written(["both - = n - ; - = g -", "free 9"]), gives, never)
        self.accepts(written(["both - = g - ; - = n -", "free 9"]), gives, never)
        self.fails(("fault", 0), written(["free 9", "both - = g - ; - = n -"]), gives, never)

    def test_what_comes_in_lies_apart(self):
        makes = written(["pass"], name="g", tells="u", behind="cell u 0 0")
        rows = ["both a = g - ; b = g -", "if a is b", "  free 9", "else", "  free a", "  free b"]
        self.accepts(written(rows), makes)
        self.fails(("fault", 4), written(rows[:-1] + ["  free a"]), makes)

    def test_within_boths_that_hold(self):
        self.accepts(written(["hold k", "  both - = f - ; - = f -"]), written(["hold k", "  pass"], name="f"))
        f = written(["hold m", "  pass"], name="f", takes="p", ahead="cell p v n", behind="cell p v n")
        self.accepts(written(["hold k", "  both - = f 1 ; - = f x"], takes="x", ahead="cell x v n",
                             behind="cell x v n"), f)
        self.fails(("lacks", 1), written(["hold k", "  both - = f 1 ; - = f 1"]), f)

    def test_two_hands_never_read_one_cell(self):
        get = written(["get a x worth"], name="f", takes="x", ahead="cell x v n", behind="cell x v n")
        self.fails(("lacks", 0), written(["both - = f x ; - = f x"], takes="x", ahead="cell x v n",
                                         behind="cell x v n"), get)


class OtherWays(JudgedTest):
    """A hold is as two calls, a both as one call: each way tells the same."""

    def test_holds_as_calls(self):
        any_of = random.Random(5)
        counted = [0, 0]
        for k in range(700):
            locks = LOCKS
            for _ in range(k % 2):
                locks = bent_locks(any_of, locks)
            some = bent_work(any_of, any_of.choice([work for work in WORKS if held(work[5])]))
            rows = without_holds(some[5])
            other = some[:5] + (rows,)
            if not held(some[5]) or not is_work(other):
                continue
            works = [work for work in WORKS if work[0] != some[0]]
            ends = []
            for name, claim in locks:
                ends.extend([deed("take" + name, behind=claim), deed("give" + name, ahead=claim)])
            told = self.told(works + [some], locks, some[0])
            self.assertEqual(told is None, self.told(works + ends + [other], [], some[0]) is None, show_work(some))
            counted[told is None] += 1
        self.assertGreater(min(counted), 50)

    def test_boths_as_calls(self):
        any_of = random.Random(6)
        counted = [0, 0]
        for k in range(600):
            sides = [bent_work(any_of, BY_NAME[any_of.choice(["one", "first", "taker", "rev",
                                                              "freeall"])]) for _ in (0, 1)]
            left, right = [("p" + letter,) + renamed(side, letter)[1:] for side, letter in zip(sides, "ab")]
            pair = ("pair", left[1] + right[1], left[2] + right[2]) + tuple(
                [(left[at][0] + right[at][0], left[at][1] + right[at][1]) for at in (3, 4)]) + ((),)
            if not is_work(pair) or not is_work(left) or not is_work(right):
                continue
            takes, tells = ("x", "y", "z")[:len(pair[1])], ("f", "g", "h")[:len(pair[2])]
            terms = tuple([any_of.choice(takes + takes + (3,)) if any_of.random() < 0.3 else take for take in takes])
            ahead = rename_claim(pair[3], dict(zip(pair[1], takes)))
            behind = rename_claim(pair[4], {**dict(zip(pair[1], takes)), **dict(zip(pair[2], tells))})
            cut, outs = len(left[1]), len(left[2])
            head = ("d", takes, tells, ahead, behind)
            call = head + ((("call", tells, "pair", terms),),)
            two = head + ((("both", tells[:outs], "pa", terms[:cut], tells[outs:], "pb", terms[cut:]),),)
            if not is_work(two):
                continue
            self.assertTrue(is_work(call))
            works = [call, pair], [two, left, right]
            told = [self.told(some, LOCKS, "d") for some in works]
            self.assertEqual(told[0] is None, told[1] is None, (show_work(two), show_work(pair)))
            counted[told[0] is None] += 1
        self.assertGreater(min(counted), 40, counted)


def held(rows):
    """The names of the locks in these rows."""
    out = []
    for row in rows:
        if row[0] == "hold":
            out.append(row[1])
        for part in row:
            if isinstance(part, tuple) and part and isinstance(part[0], tuple) and row[0] in ("if", "while", "hold"):
                if part[0] and isinstance(part[0][0], str):
                    out.extend(held(part))
    return out


def without_holds(rows):
    """These rows with two calls for each hold."""
    out = []
    for row in rows:
        if row[0] == "if":
            out.append(row[:4] + (without_holds(row[4]), without_holds(row[5])))
        elif row[0] == "while":
            out.append(row[:6] + (without_holds(row[6]),))
        elif row[0] == "hold":
            out.append(("call", (), "take" + row[1], ()))
            out.extend(without_holds(row[2]))
            out.append(("call", (), "give" + row[1], ()))
        else:
            out.append(row)
    return tuple(out)


def rename_claim(claim, names):
    """The claim with other names."""
    def other(thing):
        if isinstance(thing, tuple):
            return tuple([other(part) if k or not isinstance(part, str) else part for k, part in enumerate(thing)])
        return names.get(thing, thing)
    return tuple([tuple([other(item) for item in items]) for items in claim])


def renamed(work, letter):
    """The work with this letter behind each name of its takes, tells and claims; it has no rows."""
    def other(name):
        return name + letter if isinstance(name, str) else name
    names = {}
    for claim in work[3:5]:
        for items in claim:
            for item in items:
                for part in item[1:]:
                    for piece in part if isinstance(part, tuple) else [(0, part)]:
                        names[piece[1]] = other(piece[1])
    names.update({name: other(name) for name in work[1] + work[2]})
    takes, tells = [tuple([other(name) for name in some]) for some in work[1:3]]
    return (work[0], takes, tells, rename_claim(work[3], names), rename_claim(work[4], names), ())


class Deeds(JudgedTest):

    def test_as_in_verdicts(self):
        any_of = random.Random(8)
        counted = [0, 0]
        for k in range(500):
            some = DEEDS[k % len(DEEDS)]
            for _ in range(any_of.choice([0, 1, 2])):
                some = bent(any_of, some)
            deeds = [some if other[0] == some[0] else other for other in DEEDS]
            right = verdict(deeds, some[0])
            told = self.told(deeds, LOCKS, some[0])
            self.assertEqual(told and told[0], right and right[0])
            if told is not None and told[0] == "absent":
                self.assertEqual(told, right)
            counted[told is None] += 1
        self.assertGreater(min(counted), 50)


class AgainstAnotherReading(JudgedTest):

    def test_bent_works_and_locks(self):
        any_of = random.Random(9)
        counted = {}
        for k in range(3000):
            works, locks, at = list(WORKS), LOCKS, k % len(WORKS)
            for _ in range(any_of.choice([1, 1, 2, 3])):
                works[at] = bent_work(any_of, works[at])
            for _ in range(any_of.choice([0, 0, 1, 2])):
                locks = bent_locks(any_of, locks)
            told = self.told(works, locks, works[at][0])
            if told is None:
                self.assertIsNone(failing_run(works, works[at], 100, k, locks),
                                  (show_work(works[at]), show_locks(locks)))
            counted[told and told[0]] = counted.get(told and told[0], 0) + 1
        self.assertGreater(min(counted[how] for how in (None, "loose", "absent")), 200, counted)

    def test_pieces_told(self):
        found = {}
        any_of = random.Random(3)
        for k in range(300):
            some = bent_work(any_of, BY_NAME["sum"])
            works = [some if other[0] == "sum" else other for other in WORKS]
            told = self.told(works, LOCKS, "sum")
            if told is not None and told[0] == "loose":
                self.assertLess(told[1][0], pieces(some))
                found[told[1][0]] = True
        self.assertEqual(sorted(found), [0, 1, 2])


class Promise(JudgedTest):
    """What is accepted, with all that it reaches, is never blamed; what is blamed isn't accepted."""

    def reaches(self, works, name):
        found = [name]
        by_name = {work[0]: work for work in works}
        for other in found:
            found.extend([one for one in dict.fromkeys(names_called(by_name.get(other, deed())))
                          if one not in found])
        return [other for other in found if other in by_name]

    def test_drawn_schedules(self):
        any_of = random.Random(10)
        counted = {}
        for k in range(2500):
            works, locks = list(WORKS), LOCKS
            for _ in range(any_of.choice([0, 1, 2])):
                at = any_of.randrange(len(works))
                works[at] = bent_work(any_of, works[at])
            for _ in range(any_of.choice([0, 0, 0, 1])):
                locks = bent_locks(any_of, locks)
            some = any_of.choice(works)
            try:
                numbers, heap = drawn_start(some, locks, any_of)
            except Dead:
                continue
            schedule = tuple([any_of.randint(0, 9) for _ in range(any_of.choice([0, 20, 80]))])
            told = guarded(works, locks, some[0], numbers, heap, schedule=schedule, steps=150)
            counted[told[0]] = counted.get(told[0], 0) + 1
            if told[0] == "blame":
                self.assertIsNotNone(judged(works, locks, told[1]), told)
                self.assertIn(told[1], self.reaches(works, some[0]))
            elif all([judged(works, locks, name) is None for name in self.reaches(works, some[0])]):
                self.assertIn(told[0], ("ends", "steps", "still"))
        self.assertGreater(counted["blame"], 20, counted)
        self.assertGreater(counted["ends"], 500, counted)


class Limits(JudgedTest):

    five = "row x 0 p ; row y 0 q ; row z 0 r ; row 7 0 p q r ~p ~q ~r ; row 8 0 ~r ~r q q p p"
    locks = read_locks(
        "lock k cell 11 a b ; row a 0 p ; row b 0 q ; row 21 0 p q ~p ~q p q ; row 22 0 q p\n"
        "lock l cell 12 a b ; row a 0 p ; row b 0 q ; row 23 0 p q ~p ~q p q ; row 24 0 q p\n"
        "lock m cell 13 a b ; row a 0 p ; row b 0 q ; row 25 0 p q ~p ~q p q ; row 26 0 q p")

    def test_holds_of_five_parts(self):
        rows = ["hold k", "  hold l", "    hold m", "      get a 11 worth", "      get b 12 worth",
                "      get c 13 worth",
                "      put 11 worth a", "      get e 21 next", "      get f 23 next", "      get g 25 next"]
        tests = []
        for name in "abc":
            tests.extend([f"      if {name} is 0", "        pass", "      else", f"        get h {name} next",
                          f"        put {name} next h"])
        self.accepts(written(rows + tests), locks=self.locks)
        self.fails(("lacks", 2), written(rows + ["      put 13 worth b"] + tests), locks=self.locks)

    def test_boths_of_five_parts(self):
        five = self.five
        f = written(["pass"], name="f", takes="x y z", ahead=five, behind=five)
        g = f.replace("deed f", "deed g").replace(" 7 ", " 9 ").replace(" 8 ", " 10 ")
        made = written(["pass"], name="h", tells="x y z", behind=five.replace("row 7 0 p q r ~p ~q ~r",
                                                                              "row 7 0 p q r").replace(
            "row 8 0 ~r ~r q q p p", "row 8 0 r q p"))
        rows = ["call a b c = h -", "get e a next"]
        self.fails(("fault", 1), written(rows), made)
        rows = ["both - = f x y z ; - = i -", "get a 7 next", "get b 8 next", "put 7 next a"] * 6
        i = written(["hold k", "  pass"], name="i")
        head = {"takes": "x y z", "ahead": five, "behind": five}
        self.accepts(written(rows, **head), f, i)
        self.fails(("lacks", 20), written(rows[:20] + ["both - = f x y z ; - = g x y z"] + rows[21:], **head), f, g, i)

    chain = "row a b p ; row b c q ; row c {0} r ; row {0} {1} s ; cell {1} v w"

    def test_stretches_of_which_each_may_be_empty(self):
        texts = []
        for name, here, end in (("a", 7, 8), ("b", 9, 10)):
            claim = self.chain.format(here, end)
            texts.append(written(["pass"], name="h" + name, tells="a b c", behind=claim))
            texts.append(written(["pass"], name="g" + name, takes="a b c", ahead=claim))
        rows = ["both a b c = ha - ; e f i = hb -"] + [f"get l {name} next" for name in "abcefi"] + [
            "both - = ga a b c ; - = gb e f i"]
        self.accepts(written(rows * 3), *texts)
        self.fails(("lacks", 23), written(rows * 2 + rows[:7] + ["both - = ga a b c ; - = gb e i f"]), *texts)
        rows[3:5] = ["get l l next"]
        self.accepts(written(rows), *texts)
        rows[3:4] *= 2
        self.fails(("fault", 4), written(rows), *texts)
