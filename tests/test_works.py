"""Points 22 to 24: works, lists of locks, and both as texts."""

import copy
import unittest

from cellvouch.deeds import ghosts_of, is_deed, locals_of, rows_of
from cellvouch.errors import NoText
from cellvouch.rows import all_rows
from cellvouch.texts import read_deed, show_deed
from cellvouch.works import are_locks, is_work, read_locks, read_work, show_locks, show_work
from tests.samples import (
    MIXED, NAMES, NO_NAMES, NOTHING, REVERSE, STRANGE, Maker, back, both, cell, claim, deed, fork, hold, loop, one,
    row, stretch,
)
from tests.shelf import DEEDS
from tests.test_deeds import FIELD, ROW_KINDS, ROWS
from tests.test_texts import TextTest
from tests.workshelf import LOCKS, LOCKS_TEXT, TEXTS, WORKS

SET = ("set", "l", 0)
CALL = ("call", (), "f", ())
BOTH = both((), "f", ())

NO_OUTS = (None, "l", ["l"], ("t",), ("l", "l"), (1,), ("",), ("l", "m", "n", "o"), (("l",),))
NO_TERMS = (None, "t", ["t"], (None,), (True,), ("strange",), (1, 2, 3, 4), (("t",),), (1000000000,))
NO_NAME = NO_NAMES + (None, True, 0, ("f",), ["f"])


class WorkTest(unittest.TestCase):

    def holds(self, *things):
        for thing in things:
            self.assertIs(is_work(thing), True, thing)

    def fails(self, *things):
        for thing in things:
            self.assertIs(is_work(thing), False, thing)


class Works(WorkTest):

    def test_each_deed_is_a_work(self):
        self.holds(REVERSE, MIXED, deed(), *DEEDS)
        for seed in range(300):
            self.holds(Maker(seed).deed("d"))

    def test_works_that_are_no_deeds(self):
        self.holds(*WORKS)
        for some in (deed(rows=(BOTH,)), deed(rows=(hold("k"),)), deed(rows=(loop(hold("k", SET)),)),
                     deed(rows=(fork(others=(BOTH,)),))):
            self.holds(some)
            self.assertIs(is_deed(some), False)

    def test_anything(self):
        self.fails(*STRANGE)
        for k in range(6):
            for thing in STRANGE:
                some = deed()[:k] + (thing,) + deed()[k + 1:]
                right = thing == deed()[k] or (k == 0 and thing in NAMES) or (k in (1, 2) and thing == ("one",))
                self.assertIs(is_work(some), right, some)

    def test_things_stay_as_they_were(self):
        for thing in STRANGE + ([["both"], [("hold", ["k"])]], deed(rows=([hold("k")],))):
            kept = copy.deepcopy(thing)
            is_work(thing)
            are_locks(thing)
            self.assertEqual(thing, kept)

    def with_row(self, some):
        """A work with this row, in which t is a take, and l and o are locals."""
        return deed(takes=("t",), tells=("o",), rows=(some, SET))

    def test_both(self):
        for right in (both((), "f", ()), both(("l",), "f", ("t", 1), ("m", "o"), "f", (-5, "l", "o")),
                      both(("l", "m", "n"), "a", (1, 2, 3), ("o", "p", "q"), "abcdefgh", ("l",) * 3)):
            self.holds(self.with_row(right))
            for outer in (fork, loop):
                self.holds(self.with_row(outer(right)))
            self.holds(self.with_row(hold("k", right)))

    def test_both_bent_in_every_place(self):
        right = both(("l",), "f", ("t", 1), ("m",), "g", ("t",))
        for k, bends in ((1, NO_OUTS), (2, NO_NAME), (3, NO_TERMS), (4, NO_OUTS), (5, NO_NAME), (6, NO_TERMS)):
            for thing in bends:
                bent = right[:k] + (thing,) + right[k + 1:]
                self.fails(self.with_row(bent), self.with_row(hold("k", fork(bent))))

    def test_no_name_twice_in_both_outs_together(self):
        for outs, others in ((("l",), ("l",)), (("l", "m"), ("n", "l")), (("m",), ("o", "m", "l"))):
            self.fails(self.with_row(both(outs, "f", (), others, "f", ())))
        self.holds(self.with_row(both(("l", "m"), "f", ("l", "l"), ("n", "o"), "f", ("l", "m"))))

    def test_both_of_another_length(self):
        right = both(("l",), "f", ("t", 1), ("m",), "g", ("t",))
        self.fails(self.with_row(right[:-1]), self.with_row(right[:4]), self.with_row(right + ((),)),
                   self.with_row(list(right)), self.with_row(right[1:]), self.with_row(("both",)))

    def test_hold(self):
        for name in NAMES:
            self.holds(self.with_row(hold(name)), self.with_row(hold(name, SET, hold(name, ("free", "t")))))
        for bent in NO_NAME:
            self.fails(self.with_row(("hold", bent, ())))
        for bent in ROWS:
            self.fails(self.with_row(("hold", "k", bent)))
        self.fails(self.with_row(("hold", "k")), self.with_row(("hold", "k", (), ())), self.with_row(["hold", "k", ()]),
                   self.with_row(("hold",)), self.with_row(("Hold", "k", ())))

    def test_each_kind_within_a_hold(self):
        for right, bends in ROW_KINDS:
            self.holds(self.with_row(hold("k", right)), self.with_row(loop(hold("k", fork(right)))))
            for k, things in enumerate(bends):
                for thing in things:
                    self.fails(self.with_row(hold("k", right[:k + 1] + (thing,) + right[k + 2:])))

    def test_other_kinds(self):
        for kind in ("", "Both", "boths", "holds", "pass", None, 0, ("both",)):
            self.fails(self.with_row((kind,) + BOTH[1:]), self.with_row((kind, "k", ())))

    def test_names_of_locks_are_none_of_the_work(self):
        ahead = claim(stretch("t", 0, row("r")), cell("u", "v", "w"))
        for name in ("t", "u", "r", "v", "l", "o", "d"):
            self.holds(deed("d", ("t", "u"), ("o",), ahead, rows=(hold(name, SET),)))
        self.fails(deed(rows=(hold("k", ("free", "k")),)))


class Names(WorkTest):

    def test_locals_that_a_both_sets(self):
        rows = (both(("b",), "f", (), ("a", "c"), "f", ()), hold("k", ("set", "e", 0), loop(both(("g",), "f", ()))))
        self.assertEqual(locals_of(deed(tells=("z",), rows=rows)), ["a", "b", "c", "e", "g", "z"])
        self.holds(deed(rows=rows + (("free", "a"), ("free", "g"))))
        self.fails(deed(rows=rows + (("free", "h"),)), deed(takes=("g",), rows=rows), deed(takes=("c",), rows=rows))

    def test_terms_that_it_reads(self):
        for some in (both((), "f", ("x",)), both((), "f", (), (), "f", (1, "x"))):
            self.fails(deed(rows=(some,)))
            self.holds(deed(takes=("x",), rows=(some,)), deed(rows=(some, ("set", "x", 0))),
                       deed(rows=(some, hold("k", both((), "f", (), ("x",))))))

    def test_no_local_is_a_ghost(self):
        ahead = claim(cell("x", "v", "n"))
        for name in ("v", "n"):
            for some in (both((name,), "f", ()), both((), "f", (), (name,)), hold("k", ("set", name, 0))):
                self.fails(deed(takes=("x",), ahead=ahead, rows=(some,)))
        self.assertEqual(ghosts_of(deed(takes=("x",), ahead=ahead, rows=(hold("k"),))), ["n", "v"])

    def test_a_name_in_two_ways(self):
        some = claim(stretch("x", 0, row("r")))
        self.fails(deed(takes=("x",), ahead=some, rows=(hold("k", loop(ahead=claim(("same", "r", 0)))),)))
        self.fails(deed(takes=("x",), ahead=some, behind=some, rows=(both((), "f", (), ("r",)),)))

    def test_loops_within_holds(self):
        outer, inner = claim(cell("x", "v", "n")), claim(cell("n", "w", "m"))
        self.holds(deed(takes=("x",), rows=(loop(hold("k", loop(ahead=inner)), ahead=outer),)))
        self.fails(deed(takes=("x",), rows=(hold("k", loop(ahead=inner)),)))
        self.fails(deed(takes=("x",), rows=(hold("k", loop(ahead=outer)), loop(ahead=inner))))
        self.fails(deed(takes=("x",), rows=(hold("k", loop(behind=inner)),)))


class Limits(WorkTest):

    def test_many_rows(self):
        self.holds(deed(rows=(SET,) * 24), deed(rows=(hold("k", *(SET,) * 23),)), deed(rows=(BOTH,) * 6 + (SET,) * 18))
        self.fails(deed(rows=(SET,) * 25), deed(rows=(hold("k", *(SET,) * 24),)), deed(rows=(BOTH,) * 6 + (SET,) * 19))
        self.holds(deed(rows=(hold("k", fork(*(SET,) * 10, others=(SET,) * 5), hold("m", SET)), SET, SET, SET, SET,
                              SET)))
        self.fails(deed(rows=(hold("k", fork(*(SET,) * 10, others=(SET,) * 5), hold("m", SET)),) + (SET,) * 6))

    def test_many_ifs_and_loops(self):
        self.holds(deed(rows=(fork(), loop(), hold("k", loop(), fork()))),
                   deed(rows=(hold("k"), hold("k")) + (fork(),) * 4))
        self.fails(deed(rows=(fork(), loop(), hold("k", loop(), fork(), fork()))),
                   deed(rows=(hold("k", *(loop(),) * 5),)))

    def test_many_holds(self):
        self.holds(deed(rows=(hold("k"),) * 3), deed(rows=(hold("k", hold("k", hold("k"))),)),
                   deed(rows=(hold("k"), fork(hold("k"), others=(hold("m"),)))))
        self.fails(deed(rows=(hold("k"),) * 4), deed(rows=(hold("k", hold("k", hold("k", hold("k")))),)),
                   deed(rows=(hold("k"), fork(hold("k"), others=(hold("m"),)), loop(hold("o")))))

    def test_many_calls_and_boths(self):
        self.holds(deed(rows=(CALL, BOTH) * 3), deed(rows=(BOTH,) * 6),
                   deed(rows=(hold("k", BOTH, CALL, CALL),) + (BOTH,) * 3))
        self.fails(deed(rows=(CALL, BOTH) * 3 + (CALL,)), deed(rows=(BOTH,) * 7), deed(rows=(CALL,) * 7),
                   deed(rows=(hold("k", BOTH, CALL, CALL),) + (BOTH,) * 4))

    def test_rows_within_one_another(self):
        for outer in (fork, loop):
            self.holds(deed(rows=(outer(outer(outer(outer(SET)))),)),
                       deed(rows=(outer(outer(outer(hold("k", BOTH)))),)))
            self.holds(deed(rows=(hold("k", hold("k", outer(outer(hold("k"))))),)))
            self.fails(deed(rows=(hold("k", outer(outer(outer(outer(SET))))),)))
            self.fails(deed(rows=(hold("k", outer(outer(hold("k", outer(hold("k")))))),)))
        self.holds(deed(rows=(fork(others=(hold("k", loop(fork(others=(CALL,)))),)),)))
        self.fails(deed(rows=(fork(others=(hold("k", loop(fork(others=(hold("k", CALL),)))),)),)))
        self.fails(deed(rows=(fork(others=(hold("k", loop(fork(others=(hold("k", hold("m")),)))),)),)))

    def test_no_end_of_rows(self):
        rows = (SET,) * 24
        for _ in range(14):
            rows = (fork(*rows, others=rows),) * 24
            self.fails(deed(rows=rows))
        rows = (SET,)
        for _ in range(14):
            rows = (hold("k", *rows, *rows),)
        self.fails(deed(rows=rows))

    def test_many_parts_and_names(self):
        parts, facts = (cell(1, 2, 3),) * 5, (("same", 1, 1),) * 4
        for some, right in (((parts, facts), True), ((parts + parts[:1], ()), False), (((), facts * 2), False)):
            self.assertIs(is_work(deed(ahead=some, rows=(BOTH,))), right)
            self.assertIs(is_work(deed(rows=(hold("k", loop(ahead=some)),))), right)
        self.holds(deed(takes=("a", "b", "c"), tells=("e", "f", "g"), rows=(BOTH,)))
        self.fails(deed(takes=("a", "b", "c", "x"), rows=(BOTH,)), deed(tells=("a", "b", "c", "x"), rows=(BOTH,)))

    def test_rows_within_a_hold_are_numbered_as_those_within_an_if(self):
        inner = (SET, hold("m", ("free", 1)), ("free", 2))
        some = deed(rows=(hold("k", *inner), ("free", 3)))
        self.assertEqual(rows_of(some), 6)
        self.assertEqual(all_rows(some[5])[1:], all_rows((fork(*inner), ("free", 3)))[1:])


class Locks(unittest.TestCase):

    def test_right(self):
        for thing in ([], LOCKS, [("k", NOTHING)], [("k", NOTHING), ("kk", NOTHING), ("a", NOTHING)],
                      [("k", claim(cell(1, "v", "n"), stretch("v", "n", row("r")), cell("n", 0, "v"),
                                   ("apart", "n", 0)))],
                      [("k", claim(("same", "a", 7), stretch("a", 0, back("r"))))],
                      [("k", claim(cell(1, "k", "m"))), ("m", claim(stretch(2, 0, row("k"))))],
                      [("k", claim(cell(1, 0, 0), cell(1, 0, 0)))]):
            self.assertIs(are_locks(thing), True, thing)

    def test_no_list(self):
        for thing in STRANGE + (tuple(LOCKS), (), {}, dict(LOCKS), "k", ("k", NOTHING)):
            self.assertIs(are_locks(thing), thing == [] and isinstance(thing, list), thing)

    def test_too_many(self):
        self.assertIs(are_locks([("k", NOTHING), ("m", NOTHING), ("o", NOTHING), ("p", NOTHING)]), False)

    def test_names(self):
        for name in NAMES:
            self.assertIs(are_locks([(name, NOTHING)]), True)
        for name in NO_NAME:
            self.assertIs(are_locks([(name, NOTHING)]), False)
        self.assertIs(are_locks([("k", NOTHING), ("m", NOTHING), ("k", claim(cell(1, 2, 3)))]), False)
        self.assertIs(are_locks([("k", NOTHING), ("k", NOTHING)]), False)

    def test_form(self):
        for lock in (["k", NOTHING], ("k",), ("k", NOTHING, ()), (NOTHING, "k"), "k", None, ("k", None), ("k", ()),
                     ("k", [(), ()]), ("k", ((), (), ())), ("k", ((cell(1, 2, True),), ())),
                     ("k", claim(stretch(1, 0, row("r")), ("same", "r", 0)))):
            self.assertIs(are_locks([lock]), False, lock)
            self.assertIs(are_locks([("m", NOTHING), lock]), False, lock)

    def test_lawful_by_no_names_at_all(self):
        for some in (claim(cell("x", "v", "n")), claim(stretch(1, "y", row("r")), cell("y", 1, 2)),
                     claim(stretch(1, 0, row("r"), row("s"))), claim(("same", "a", "b")), claim(("apart", "a", 1)),
                     claim(stretch(1, 7, row("r"))), claim(stretch(1, 1))):
            self.assertIs(are_locks([("k", some)]), False, some)


class WorkTexts(TextTest):

    written = (
        (deed(rows=(both((), "f", ()),)), "both - = f - ; - = f -"),
        (deed(tells=("a",), takes=("t",), rows=(both(("a", "b"), "f", (1, "t"), ("c",), "both", (-3, "c", 0)),)),
         "both a b = f 1 t ; c = both -3 c 0"),
        (deed(rows=(both(("a",), "f", (), (), "g", (999999999,)),)), "both a = f - ; - = g 999999999"),
        (deed(rows=(hold("k"),)), "hold k\n  pass"),
        (deed(rows=(hold("hold", hold("pass"), ("free", 1)), hold("else", BOTH))),
         "hold hold\n  hold pass\n    pass\n  free 1\nhold else\n  both - = f - ; - = f -"),
        (deed(rows=(loop(hold("k", fork(hold("m"), others=(hold("k", CALL),)))),)),
         "while 0 is 1\n  ahead none\n  behind none\n  hold k\n    if 0 is 1\n      hold m\n        pass\n"
         "    else\n      hold k\n        call - = f -"),
    )

    def test_written_and_read_back(self):
        for some, rows in self.written:
            self.assertIs(is_work(some), True)
            text = show_deed(some[:5] + ((),)).removesuffix("pass") + rows
            self.assertEqual(show_work(some), text)
            self.assertEqual(read_work(text), some)
            self.refused(read_deed, text)

    def test_deeds_as_in_texts(self):
        for some in DEEDS + [MIXED, deed()]:
            self.assertEqual(show_work(some), show_deed(some))
            self.assertEqual(read_work(show_deed(some)), some)

    def test_the_shelf(self):
        for some, text in zip(WORKS, TEXTS.strip("\n").split("\n\n")):
            self.assertEqual(show_work(some), text)

    def test_made_ones(self):
        kinds = []
        for seed in range(400):
            some = Maker(seed).work("fgh"[seed % 3])
            self.assertIs(is_work(some), True, some)
            self.assertEqual(read_work(show_work(some)), some)
            kinds.extend([each[0] for each in all_rows(some[5])])
        self.assertGreater(min(kinds.count("both"), kinds.count("hold")), 100)

    def test_bent_rows(self):
        whole = "deed d takes t ; tells l\nahead none\nbehind none\n"
        self.assertEqual(show_work(read_work(whole + "hold k\n  both l = f t ; m = g l")), whole
                         + "hold k\n  both l = f t ; m = g l")
        for rows in (
                "both", "both ", "both - = f -", "both - = f - ;", "both - = f - ; ", "both - = f -; - = f -",
                "both - = f - ;- = f -", "both - = f - ; - = f", "both - = f - ; - f -", "both - = f ; - = f -",
                "both = f - ; - = f -", "both - = f - ; = f -", "both - = f - ; - = f - ; - = f -",
                "both - = f  - ; - = f -", "both - = f - ; - = f - ", " both - = f - ; - = f -",
                "both l = f - ; l = f -",
                "both l m = f - ; n l = f -", "both t = f - ; - = f -", "both - = f x ; - = f -",
                "both - = F - ; - = f -",
                "both - = f 01 ; - = f -", "both - = f - - ; - = f -", "both - - = f - ; - = f -",
                "Both - = f - ; - = f -",
                "both - = f 1 2 3 4 ; - = f -", "both l m n o = f - ; - = f -", "boths - = f - ; - = f -",
                "hold k", "hold k\npass", "hold k\n pass", "hold k\n    pass", "hold\n  pass", "hold \n  pass",
                "hold k m\n  pass", "hold K\n  pass", "hold 1\n  pass", "hold -\n  pass", "hold abcdefghi\n  pass",
                "hold k \n  pass", "hold  k\n  pass", " hold k\n  pass", "hold k\n  pass\n  pass",
                "hold k\n  pass\nend",
                "hold k\n  set l 0\n  pass", "hold k\n  pass\n  set l 0", "hold k\n  pass\n", "holds k\n  pass",
                "hold k\n  hold k\n  pass", "hold k\n  pass\nelse\n  pass", "hold k:\n  pass",
                "hold k\n  hold k\n    hold k\n      hold k\n        pass",
                "hold k\n  if 0 is 0\n    if 0 is 0\n      if 0 is 0\n        if 0 is 0\n          pass\n        else\n"
                "          set l 0\n      else\n        pass\n    else\n      pass\n  else\n    pass"):
            self.refused(read_work, whole + rows)

    def test_what_is_no_work(self):
        for some in (deed(rows=(SET,) * 25), deed(rows=(BOTH,) * 7), deed(rows=(hold("k"),) * 4),
                     deed(rows=(fork(fork(fork(fork(fork())))),)), deed(rows=(both((), "f", ("x",)),))):
            self.refused(read_work, show_work(some))

    def test_anything(self):
        self.refused(read_work, *STRANGE, deed(), WORKS[0], b"pass")

    def test_without_end(self):
        whole = "deed d takes t ; tells l\nahead none\nbehind none\n"
        for many in (5000, 50000):
            self.refused(read_work, *[whole + sign * many for sign in "019-a =~;(\n"])
            self.refused(read_work, whole + "both" + " ; - = f -" * many, whole + "hold " + "k" * many,
                         whole + "hold k\n" * many, whole + "both - = f - ; - = f -\n" * many)
        self.refused(read_work, whole + "\n".join(["  " * k + "hold k" for k in range(2000)] + ["  " * 2000 + "pass"]))

    def test_bent(self):
        for some, rows in self.written:
            self.holds_for_bends(show_work(some), read_work, show_work, is_work)


class LockTexts(TextTest):

    written = (
        ([], ""), (LOCKS, LOCKS_TEXT), ([("k", NOTHING)], "lock k none"),
        ([("lock", claim(stretch(1, 0, row("r")))), ("none", claim(("apart", 1, 2)))],
         "lock lock row 1 0 r\nlock none apart 1 2"),
        ([("k", claim(stretch(-1, 0, one(-5), one("v")), ("same", "v", 3)))], "lock k row -1 0 =-5 =v ; same v 3"),
    )

    def test_written_and_read_back(self):
        for locks, text in self.written:
            self.assertIs(are_locks(locks), True)
            self.assertEqual(show_locks(locks), text)
            told = read_locks(text)
            self.assertEqual(told, locks)
            self.assertIsNot(read_locks(text), told)

    def test_in_its_sequence(self):
        for locks in (LOCKS, LOCKS[::-1], LOCKS[1:] + LOCKS[:1]):
            self.assertEqual(read_locks(show_locks(locks)), locks)

    def test_refused(self):
        self.refused(
            read_locks, " ", "\n", "none", "-", "lock", "lock ", "lock k", "lock k ", "lock none", "Lock k none",
            "locks k none", " lock k none", "lock k none ", "lock k none\n", "\nlock k none", "lock  k none",
            "lock k  none", "lock k\nnone", "lock k cell 1 2", "lock k cell x 1 2", "lock k row 1 0 r s", "lock 1 none",
            "lock K none", "lock abcdefghi none", "lock k none ; lock m none", "lock k none\n\nlock m none",
            "lock k none\nlock k none", "lock k none\nlock m", "lock a none\nlock b none\nlock c none\nlock e none",
            "lock k same 1 1 ; cell 1 2 3", "lock k cell 01 2 3", "lock k None", "lock k none;", "[]", "deed d takes -")
        self.refused(read_locks, *[thing for thing in STRANGE if thing != ""])
        self.refused(read_locks, b"", LOCKS, tuple(LOCKS), None)

    def test_without_end(self):
        for many in (5000, 50000):
            self.refused(read_locks, *[sign * many for sign in "019-a =~;(\n"])
            self.refused(read_locks, "lock k none\n" * many, "lock " + "k" * many + " none",
                         "lock k cell " + "1" * many,
                         "lock k row 1 0" + " r" * many, "lock k " + "none ; " * many)

    def test_bent(self):
        for locks, text in self.written:
            self.holds_for_bends(text, read_locks, show_locks, are_locks)

    def test_caught_as_no_text_alone(self):
        with self.assertRaises(NoText):
            read_locks("lock")
