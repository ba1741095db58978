"""Points 8 and 9: deeds, their rows, locals, ghosts and limits."""

import unittest

from cellvouch.deeds import ghosts_of, is_deed, locals_of, rows_of
from tests.samples import (
    MIXED, NAMES, NO_NAMES, NO_TERMS, NOTHING, REVERSE, STRANGE, WHOLE_NUMBERS, Maker, back, cell, claim, deed, fork,
    loop, one, row, stretch,
)

SET = ("set", "l", 0)
CALL = ("call", (), "f", ())

# A right row of each kind, with what its places may not hold.
LOCAL = NO_NAMES + (None, True, 0, 5, (), ("l",), ["l"], "t")
TERM = NO_TERMS + ("strange",)
FIELD = ("", "Worth", "worths", "address", None, 0, ("worth",), ["next"], True)
TEST = ("", "isnt", "is not", "Is", "==", None, True, ("is",), ["is"])
NAME = NO_NAMES + (None, True, 0, ("f",), ["f"])
CLAIM = ((), ((),), None, "none", [(), ()], ((), [], ), ((), (), ()), ((cell(1, 2, True),), ()))
ROWS = (None, 0, "pass", [], [SET], SET, (None,), ((),), (("set",),), (SET, None))
ROW_KINDS = (
    (("set", "l", "t"), (LOCAL, TERM)),
    (("new", "l", "t", 4), (LOCAL, TERM, TERM)),
    (("free", "t"), (TERM,)),
    (("get", "l", "t", "next"), (LOCAL, TERM, FIELD)),
    (("put", "t", "worth", "l"), (TERM, FIELD, TERM)),
    (("if", "t", "is", "l", (SET,), ()), (TERM, TEST, TERM, ROWS, ROWS)),
    (("while", "t", "isn't", "l", NOTHING, NOTHING, (SET,)), (TERM, TEST, TERM, CLAIM, CLAIM, ROWS)),
    (("call", ("l",), "f", ("t", 1)), (
        (None, "l", ["l"], ("t",), ("l", "l"), (1,), ("",), ("l", "m", "n", "o"), (("l",),)),
        NAME, (None, "t", ["t"], (None,), (True,), ("strange",), (1, 2, 3, 4), (("t",),)))),
)


class DeedTest(unittest.TestCase):

    def holds(self, *things):
        for thing in things:
            self.assertIs(is_deed(thing), True, thing)

    def fails(self, *things):
        for thing in things:
            self.assertIs(is_deed(thing), False, thing)


class Form(DeedTest):

    def test_samples(self):
        self.holds(REVERSE, MIXED, deed(), deed("abcdefgh"))

    def test_many_places(self):
        self.fails((), deed()[:5], deed() + ((),), list(deed()))

    def test_anything(self):
        self.fails(*STRANGE)
        for k in range(6):
            for thing in STRANGE:
                some = deed()[:k] + (thing,) + deed()[k + 1:]
                right = thing == deed()[k] or (k == 0 and thing in NAMES) or (k in (1, 2) and thing == ("one",))
                self.assertIs(is_deed(some), right, some)

    def test_names(self):
        self.holds(*[deed(name) for name in NAMES])
        self.fails(*[deed(name) for name in NO_NAMES])

    def test_takes_and_tells(self):
        self.holds(deed(takes=("a", "b", "c"), tells=("e", "f", "g")))
        for three in (("a", "b", "c", "d"), ("a", "a"), ["a"], "a", (1,), ("a", ""), ("A",), ("abcdefghi",), None):
            self.fails(deed(takes=three), deed(tells=three))
        self.fails(deed(takes=("a", "b"), tells=("c", "b")))

    def test_claims(self):
        for bent in CLAIM:
            self.fails(deed(ahead=bent), deed(behind=bent))

    def test_by_name(self):
        self.assertIs(is_deed(thing=deed()), True)
        self.assertEqual(locals_of(deed=REVERSE), ["n", "y", "z"])
        self.assertEqual(ghosts_of(deed=REVERSE), ["r"])
        self.assertEqual(rows_of(deed=REVERSE), 7)


class Rows(DeedTest):

    def with_row(self, some):
        """A deed with this row, in which t is a take, and l and o are locals."""
        return deed(takes=("t",), tells=("o",), rows=(some, SET))

    def test_each_kind_right(self):
        for right, _ in ROW_KINDS:
            self.holds(self.with_row(right))

    def test_each_kind_bent_in_every_place(self):
        for right, bends in ROW_KINDS:
            self.assertEqual(len(right), len(bends) + 1)
            for k, things in enumerate(bends):
                for thing in things:
                    self.fails(self.with_row(right[:k + 1] + (thing,) + right[k + 2:]))

    def test_each_kind_of_another_length(self):
        for right, _ in ROW_KINDS:
            self.fails(self.with_row(right[:-1]), self.with_row(right + (0,)), self.with_row(right + ((),)))
            self.fails(self.with_row(right[1:]), self.with_row(list(right)), self.with_row(right[:1]))

    def test_other_kinds(self):
        for kind in ("", "Set", "pass", "else", "both", "hold", "cell", None, 0, ("set",), ["set"]):
            self.fails(self.with_row((kind, "l", 0)), self.with_row((kind,)))
        for thing in STRANGE:
            self.fails(self.with_row(thing))

    def test_each_kind_within_others(self):
        for right, bends in ROW_KINDS:
            bent = right[:1] + (bends[0][0],) + right[2:]
            for outer in (fork, loop):
                self.holds(self.with_row(outer(right)))
                self.fails(self.with_row(outer(bent)))
            self.holds(self.with_row(fork(others=(right,))))
            self.fails(self.with_row(fork(others=(bent,))))

    def test_terms(self):
        for term in WHOLE_NUMBERS + ("t", "l", "o"):
            self.holds(self.with_row(("set", "l", term)), self.with_row(("call", (), "f", (term,) * 3)))

    def test_outs(self):
        self.holds(self.with_row(("call", ("l", "m", "o"), "f", ("l", "l", "o"))))
        self.holds(self.with_row(("call", ("l",), "d", ("l",))))

    def test_takes_that_a_row_sets(self):
        for some in (("set", "t", 0), ("new", "t", 0, 0), ("get", "t", 1, "next"), ("call", ("l", "t"), "f", ())):
            self.fails(self.with_row(some), self.with_row(fork(some)), self.with_row(loop(fork(others=(some,)))))

    def test_names_read_that_nothing_sets(self):
        for some in (("free", "m"), ("put", "m", "next", 1), fork(test=("m", "is", 0)), loop(test=(0, "is", "m"))):
            self.fails(self.with_row(some))
            self.holds(deed(rows=(some, ("set", "m", 0))))
            self.holds(deed(takes=("m",), rows=(some,)))
            self.holds(deed(tells=("m",), rows=(some,)))
            self.holds(deed(rows=(some, loop(fork(others=(("set", "m", 0),))))))

    def test_ghosts_in_rows(self):
        ahead = claim(cell("t", "v", "n"))
        self.holds(deed(takes=("t",), ahead=ahead, rows=(("free", "t"),)))
        self.fails(deed(takes=("t",), ahead=ahead, rows=(("free", "v"),)))
        inner = claim(cell("t", "w", "m"))
        self.holds(deed(takes=("t",), rows=(loop(("free", "t"), ahead=inner),)))
        self.fails(deed(takes=("t",), rows=(loop(("free", "w"), ahead=inner),)))


class Limits(DeedTest):

    def test_many_rows(self):
        self.holds(deed(rows=(SET,) * 24))
        self.fails(deed(rows=(SET,) * 25), deed(rows=(SET,) * 2000))
        self.holds(deed(rows=(fork(*(SET,) * 10, others=(SET,) * 5), loop(SET)) + (SET,) * 6))
        self.fails(deed(rows=(fork(*(SET,) * 10, others=(SET,) * 5), loop(SET)) + (SET,) * 7))
        self.fails(deed(rows=(fork(*(SET,) * 24),)), deed(rows=(fork(others=(SET,) * 24),)))
        self.holds(deed(rows=(fork(*(SET,) * 23),)), deed(rows=(loop(*(SET,) * 23),)))

    def test_many_ifs_and_loops(self):
        self.holds(deed(rows=(fork(),) * 4), deed(rows=(loop(),) * 4), deed(rows=(fork(), loop()) * 2))
        self.fails(deed(rows=(fork(),) * 5), deed(rows=(loop(),) * 5), deed(rows=(fork(), loop()) * 2 + (fork(),)))
        self.holds(deed(rows=(fork(loop(), others=(fork(),)), fork())))
        self.fails(deed(rows=(fork(loop(), others=(fork(),)), fork(), loop())))

    def test_many_calls(self):
        self.holds(deed(rows=(CALL,) * 6), deed(rows=(fork(CALL, CALL, others=(CALL,)), loop(CALL), CALL, CALL)))
        self.fails(deed(rows=(CALL,) * 7), deed(rows=(fork(CALL, CALL, others=(CALL,)), loop(CALL), CALL, CALL, CALL)))

    def test_rows_within_one_another(self):
        for outer in (fork, loop):
            self.holds(deed(rows=(outer(outer(SET)),)), deed(rows=(outer(outer(outer())),)))
            self.fails(deed(rows=(outer(outer(outer(SET))),)), deed(rows=(outer(outer(outer(outer()))),)))
        self.holds(deed(rows=(fork(others=(loop(CALL),)),)), deed(rows=(fork(others=(loop(fork()),)),)))
        self.fails(deed(rows=(fork(others=(loop(fork(others=(CALL,))),)),)))

    def test_no_end_of_rows_within_one_another(self):
        rows = (SET,)
        for _ in range(14):
            rows = (fork(*rows, others=rows),)
        self.fails(deed(rows=rows))

    def test_parts_facts_and_pieces(self):
        parts, facts = (cell(1, 2, 3),) * 5, (("same", 1, 1),) * 4
        word = (one(1),) * 6
        for some, right in (((parts, facts), True), ((parts + parts[:1], ()), False), (((), facts * 2), False),
                            (claim(stretch(1, 0, *word)), True), (claim(stretch(1, 0, *word, one(1))), False)):
            self.assertIs(is_deed(deed(ahead=some)), right)
            self.assertIs(is_deed(deed(behind=some)), right)
            self.assertIs(is_deed(deed(rows=(loop(ahead=some),))), right)
            self.assertIs(is_deed(deed(rows=(fork(loop(behind=some)),))), right)


class Names(DeedTest):

    def test_ahead_by_the_takes(self):
        ahead = claim(cell("x", "v", "n"))
        self.holds(deed(takes=("x",), ahead=ahead))
        self.fails(deed(ahead=ahead), deed(takes=("v", "n"), ahead=ahead), deed(tells=("x",), ahead=ahead))
        self.fails(deed(takes=("x",), ahead=claim(stretch("x", 7))))

    def test_behind_by_takes_ghosts_and_tells(self):
        ahead = claim(cell("x", "v", "n"))
        for root in ("x", "v", "n", "y"):
            self.holds(deed(takes=("x",), tells=("y",), ahead=ahead, behind=claim(cell(root, "a", "b"))))
        self.fails(deed(takes=("x",), tells=("y",), ahead=ahead, behind=claim(cell("z", "a", "b"))))
        self.holds(deed(takes=("x",), ahead=claim(stretch("x", 0, row("r"))),
                        behind=claim(stretch("x", 0, back("r"), row("r")))))
        self.fails(deed(takes=("x",), behind=claim(stretch("x", 0, back("r"), row("r")))))

    def test_no_local_is_a_ghost(self):
        ahead = claim(cell("x", "v", "n"))
        for name in ("v", "n"):
            self.fails(deed(takes=("x",), ahead=ahead, rows=(("set", name, 0),)))
            self.fails(deed(takes=("x",), ahead=ahead, rows=(loop(fork(("call", (name,), "f", ()))),)))
            self.fails(deed(takes=("x",), tells=(name,), ahead=ahead))

    def test_only_tells_stand_behind(self):
        behind = claim(cell("x", "l", "n"))
        self.holds(deed(takes=("x",), tells=("l",), behind=behind, rows=(SET,)), deed(takes=("x",), behind=behind))
        self.fails(deed(takes=("x",), behind=behind, rows=(SET,)), deed(takes=("x",), behind=behind, rows=(fork(SET),)))
        self.fails(deed(behind=claim(("same", "l", 1)), rows=(SET,)))

    def test_a_name_in_two_ways(self):
        rows = claim(stretch("x", 0, row("r")))
        backs = claim(stretch("x", 0, back("r")))
        number = claim(("same", "r", 0))
        for some in (rows, backs):
            self.holds(deed(takes=("x",), ahead=some, behind=some))
            self.fails(deed(takes=("x",), ahead=some, behind=number), deed(takes=("x",), ahead=number, behind=some))
            self.fails(deed(takes=("x",), ahead=some, rows=(loop(ahead=number),)))
            self.fails(deed(takes=("x",), behind=some, rows=(loop(behind=number),)))
            self.fails(deed(takes=("x",), rows=(loop(ahead=some), fork(loop(ahead=number)))))
            self.fails(deed(takes=("x",), rows=(loop(ahead=some, behind=number),)))
            self.fails(deed(takes=("x", "r"), ahead=some), deed(takes=("x", "r"), behind=some))
            self.fails(deed(takes=("x",), tells=("r",), behind=some))
            self.fails(deed(takes=("x",), behind=some, rows=(("set", "r", 0),)))
            self.fails(deed(takes=("x", "r"), rows=(loop(ahead=some),)))
            self.fails(deed(takes=("x",), rows=(loop(ahead=some), ("set", "r", 0))))
        self.holds(deed("r", takes=("x",), ahead=rows, rows=(("call", (), "r", ()),)))


class Loops(DeedTest):

    def test_ahead_by_what_is_known(self):
        ahead = claim(cell("x", "v", "n"))
        for root in ("x", "v", "n", "l", "y"):
            self.holds(deed(takes=("x",), tells=("y",), ahead=ahead,
                            rows=(SET, loop(ahead=claim(cell(root, "a", "b"))))))
        for root in ("z", "a"):
            self.fails(deed(takes=("x",), tells=("y",), ahead=ahead,
                            rows=(SET, loop(ahead=claim(cell(root, "a", "b"))))))

    def test_ahead_by_a_local_that_an_inner_row_sets(self):
        some = claim(cell("l", "a", "b"))
        self.holds(deed(rows=(loop(fork(SET), ahead=some),)), deed(rows=(loop(ahead=some), fork(others=(SET,)))))
        self.fails(deed(rows=(loop(ahead=some),)))

    def test_behind_by_all_these(self):
        ahead = claim(cell("x", "v", "n"))
        for root in ("x", "v", "y", "l", "a"):
            behind = claim(cell(root, "g", "h"))
            rows = (SET, loop(ahead=claim(cell("l", "a", "b")), behind=behind))
            self.holds(deed(takes=("x",), tells=("y",), ahead=ahead, rows=rows))
        rows = (SET, loop(ahead=claim(cell("l", "a", "b")), behind=claim(cell("g", "g", "h"))))
        self.fails(deed(takes=("x",), ahead=ahead, rows=rows))

    def test_rows_known_as_ghosts(self):
        two = claim(stretch("x", 0, row("r"), row("s")))
        self.fails(deed(takes=("x",), rows=(loop(ahead=two),)))
        parts = claim(stretch("x", 0, row("r")), stretch("y", 0, row("s")))
        self.holds(deed(takes=("x", "y"), ahead=parts, rows=(loop(ahead=two),)))
        self.holds(deed(takes=("x", "y"), rows=(loop(ahead=parts, behind=two),)))
        self.fails(deed(takes=("x", "y"), ahead=two))

    def test_a_claim_that_leads_nowhere(self):
        for some in (claim(stretch("l", "x", row("r"))), claim(stretch("l", "l"))):
            self.fails(deed(takes=("x",), rows=(SET, loop(ahead=some))),
                       deed(takes=("x",), rows=(SET, loop(behind=some))))

    def test_a_loop_within_a_loop(self):
        outer = claim(cell("x", "v", "n"))
        inner = claim(cell("n", "w", "m"))
        self.holds(deed(takes=("x",), rows=(loop(loop(ahead=inner), ahead=outer),)))
        self.holds(deed(takes=("x",),
                        rows=(loop(fork(loop(ahead=inner, behind=claim(cell("m", 0, "v")))), ahead=outer),)))
        self.fails(deed(takes=("x",), rows=(loop(loop(ahead=outer), ahead=inner),)))
        self.fails(deed(takes=("x",), rows=(loop(loop(ahead=inner), behind=outer),)))
        self.fails(deed(takes=("x",), rows=(loop(loop(ahead=inner), ahead=outer, behind=claim(cell("m", 0, 0))),)))

    def test_a_loop_behind_another_one(self):
        first = claim(cell("x", "v", "n"))
        self.holds(deed(takes=("x",), rows=(loop(ahead=first), loop(ahead=first))))
        self.fails(deed(takes=("x",), rows=(loop(ahead=first), loop(ahead=claim(cell("n", "w", "m"))))))
        self.fails(deed(takes=("x",), rows=(loop(ahead=first), loop(behind=claim(cell("n", "w", "m"))))))
        self.fails(deed(takes=("x",), behind=claim(cell("n", "w", "m")), rows=(loop(ahead=first),)))

    def test_locals_in_its_claims(self):
        some = claim(cell("l", "m", "n"))
        rows = (SET, ("set", "m", 0), loop(("set", "n", 1), ahead=some, behind=some))
        self.holds(deed(rows=rows))

    def test_the_claim_behind_tells_nothing_to_others(self):
        behind = claim(cell("x", "v", "n"))
        self.fails(deed(takes=("x",), behind=behind, rows=(loop(ahead=claim(cell("n", 0, 0))),)))


class Told(unittest.TestCase):

    def test_locals(self):
        self.assertEqual(locals_of(deed()), [])
        self.assertEqual(locals_of(deed(takes=("a",), tells=("z", "b"))), ["b", "z"])
        self.assertEqual(locals_of(MIXED), ["c", "e", "f"])
        rows = (fork(("new", "e", 0, 0), others=(("call", ("b", "a"), "f", ("b",)),)),
                loop(fork(("get", "c", 1, "next"))))
        self.assertEqual(locals_of(deed(tells=("e", "d"), rows=rows)), ["a", "b", "c", "d", "e"])
        self.assertEqual(locals_of(deed(rows=(("free", 1), ("put", 1, "next", 2), SET, SET))), ["l"])

    def test_ghosts(self):
        self.assertEqual(ghosts_of(deed()), [])
        ahead = claim(cell("x", "z", "a"), stretch("a", 0, row("r")), ("same", "b", "z"), ("same", "z", 1))
        self.assertEqual(ghosts_of(deed(takes=("x",), ahead=ahead)), ["a", "b", "r", "z"])
        self.assertEqual(ghosts_of(deed(takes=("z", "x", "a"), ahead=ahead)), ["b", "r"])
        self.assertEqual(ghosts_of(MIXED), ["v"])
        inner = deed(takes=("x",), behind=claim(cell("x", "v", "n")), rows=(loop(ahead=claim(cell("x", "g", "h"))),))
        self.assertEqual(ghosts_of(inner), [])

    def test_rows(self):
        self.assertEqual(rows_of(deed()), 0)
        self.assertEqual(rows_of(MIXED), 11)
        self.assertEqual(rows_of(deed(rows=(SET,) * 24)), 24)

    def test_lists_are_the_askers_own(self):
        for told in (locals_of, ghosts_of):
            first = told(REVERSE)
            right = list(first)
            first.append("bent")
            self.assertEqual(told(REVERSE), right)

    def test_made_ones(self):
        for seed in range(300):
            some = Maker(seed).deed("d")
            self.assertIs(is_deed(some), True, some)
