"""Points 10 and 11: claims and deeds written as texts, and read back."""

import unittest

from cellvouch.claims import is_claim
from cellvouch.deeds import is_deed
from cellvouch.errors import NoText
from cellvouch.texts import read_claim, read_deed, show_claim, show_deed
from tests.samples import (
    MIXED, MIXED_TEXT, NAMES, NOTHING, REVERSE, REVERSE_TEXT, STRANGE, Maker, back, cell, claim, deed, fork, loop, one,
    row, stretch,
)

CLAIMS = (
    (NOTHING, "none"),
    (claim(cell("x", "v", "n")), "cell x v n"),
    (claim(cell(1, -2, 0)), "cell 1 -2 0"),
    (claim(cell(999999999, -999999999, "abcdefgh")), "cell 999999999 -999999999 abcdefgh"),
    (claim(stretch("x", 0)), "row x 0 -"),
    (claim(stretch("x", "y", one(0))), "row x y =0"),
    (claim(stretch("x", "y", one("a"))), "row x y =a"),
    (claim(stretch("x", "y", one(-7))), "row x y =-7"),
    (claim(stretch("x", "y", row("r"))), "row x y r"),
    (claim(stretch("x", "y", back("r"))), "row x y ~r"),
    (claim(stretch(5, -6, row("r"), one("a"), back("r"), one(10), back("s"), row("t"))), "row 5 -6 r =a ~r =10 ~s t"),
    (claim(("same", "a", 4)), "same a 4"),
    (claim(("apart", -4, "a")), "apart -4 a"),
    (claim(cell("cell", "row", "same"), stretch("none", "apart", row("takes"))),
     "cell cell row same ; row none apart takes"),
    (claim(stretch("x", 0, row("r")), cell("y", 1, 2), ("apart", 1, 2), ("same", 3, "z")),
     "row x 0 r ; cell y 1 2 ; apart 1 2 ; same 3 z"),
    (((cell(1, 2, 3),) * 5, (("same", 1, 1),) * 4), " ; ".join(["cell 1 2 3"] * 5 + ["same 1 1"] * 4)),
)

NO_CLAIMS = (
    "", " ", "None", "none ", " none", "none\n", "\nnone", "nones", "none ; none", "none ; cell 1 2 3",
    "cell 1 2 3 ; none", "-",
    "cell", "cell ", "cell 1", "cell 1 2", "cell 1 2 3 4", "cell -", "cell - - -", "cell 1 2 -", "Cell 1 2 3",
    "cells 1 2 3",
    "cell  1 2 3", "cell 1 2 3 ", " cell 1 2 3", "cell 1 2  3", "cell\n1 2 3", "cell 1 2 3\n", "cell 1 2 3;same 1 2",
    "cell 1 2 3 ;same 1 2", "cell 1 2 3; same 1 2", "cell 1 2 3  ; same 1 2", "cell 1 2 3 ;  same 1 2", "cell 1 2 3 ; ",
    " ; cell 1 2 3", ";", " ; ", "cell 1 2 3 ;", "cell 1 2 3 ; ; same 1 2", "cell 1 2 3 , same 1 2",
    "cell 00 1 2", "cell 01 1 2", "cell -0 1 2", "cell -01 1 2", "cell +1 1 2", "cell - 1 2", "cell 1_0 1 2",
    "cell 1.0 1 2",
    "cell --1 1 2", "cell 1- 1 2", "cell 1000000000 1 2", "cell -1000000000 1 2", "cell 0000000001 1 2", "cell 0x1 1 2",
    "cell A 1 2", "cell abcdefghi 1 2", "cell a1 1 2", "cell =a 1 2", "cell ~a 1 2", "cell (1) 1 2", "cell None 1 2",
    "cell True 1 2", "row", "row x", "row x 0", "row x 0 ", "row x 0 - -", "row x 0 r -", "row x 0 - r", "row - - -",
    "row x - r",
    "row x 0 =", "row x 0 ~", "row x 0 = a", "row x 0 ~ r", "row x 0 =-", "row x 0 ~-", "row x 0 ~1", "row x 0 1",
    "row x 0 -1",
    "row x 0 =~r", "row x 0 ~=r", "row x 0 ==a", "row x 0 ~~r", "row x 0 =01", "row x 0 =-0", "row x 0 =1000000000",
    "row x 0 R",
    "row x 0 r  s", "row x 0 r s ", "row x 0 " + " ".join(["r"] * 7), "row x 0 r ; same r 0", "row r 0 r",
    "row x 0 r =r",
    "same 1", "same 1 2 3", "same", "same - -", "apart 1", "apart 1 2 3", "is 1 2", "same 1 2 ; cell 1 2 3",
    "same 1 2 ; row x 0 r",
    "cell 1 2 3 ; same 1 2 ; cell 1 2 3", " ; ".join(["cell 1 2 3"] * 6), " ; ".join(["same 1 1"] * 5),
    "(((),()))", "((), ())", "deed d takes - ; tells -",
)

DEEDS = (
    (deed(), "deed d takes - ; tells -\nahead none\nbehind none\npass"),
    (REVERSE, REVERSE_TEXT),
    (MIXED, MIXED_TEXT),
    (deed("deed", ("takes", "a"), ("tells",), rows=(("free", "takes"),)),
     "deed deed takes takes a ; tells tells\nahead none\nbehind none\nfree takes"),
    (deed("pass", (), ("else", "pass", "none"), rows=(("set", "pass", "else"), ("call", ("call",), "call", ("call",)))),
     "deed pass takes - ; tells else pass none\nahead none\nbehind none\nset pass else\ncall call = call call"),
    (deed(rows=(fork(fork(fork(), others=(loop(),))),)),
     "deed d takes - ; tells -\nahead none\nbehind none\n"
     "if 0 is 1\n  if 0 is 1\n    if 0 is 1\n      pass\n    else\n      pass\n"
     "  else\n    while 0 is 1\n      ahead none\n      behind none\n      pass\nelse\n  pass"),
    (deed(rows=(loop(loop(("free", -3)), ("call", (), "f", ())), ("free", 999999999))),
     "deed d takes - ; tells -\nahead none\nbehind none\nwhile 0 is 1\n  ahead none\n  behind none\n  while 0 is 1\n"
     "    ahead none\n    behind none\n    free -3\n  call - = f -\nfree 999999999"),
    (deed(rows=(("call", ("a", "b", "c"), "f", (1, -2, "a")), ("get", "a", 1, "worth"), ("put", "b", "worth", "c"))),
     "deed d takes - ; tells -\nahead none\nbehind none\ncall a b c = f 1 -2 a\nget a 1 worth\nput b worth c"),
)

# Rows of a deed in which t is a take and l a local, that write nothing.
NO_ROWS = (
    "", " ", "pas", "pass ", " pass", "Pass", "else", "pass\npass", "set l 0\npass", "pass\nset l 0", "set l",
    "set l 0 0", "set  l 0",
    "set l 0 ", " set l 0", "  set l 0", "set -", "set l -", "set - 0", "set 0 l", "set t 0", "set l strange",
    "set l 00", "set l -0",
    "set l 1000000000", "Set l 0", "set l 0\n", "\nset l 0", "set l 0\n\nset l 0", "set l 0;set l 0",
    "set l 0 ; set l 0",
    "new l 0", "new l 0 0 0", "new 5 0 0", "free", "free ", "free 1 2", "free -", "free strange", "get l 1",
    "get l 1 2", "get l 1 Next",
    "get l 1 field", "get l worth 1", "put 1 worth", "put 1 2 worth", "put worth 1 2", "put 1 worth -",
    "put 1 address 2",
    "call l = f", "call l f -", "call = f -", "call - = f", "call - = f - -", "call - = - -", "call - = f 1 -",
    "call l - = f -",
    "call - =  f -", "call -  = f -", "call - = f  1", "call -= f -", "call - =f -", "call - = f -;", "call l l = f -",
    "call l = f 1 2 3 4", "call l m n o = f -", "call t = f -", "call 1 = f -", "call l = F -", "call l = f 01",
    "call - = f - = f -",
    "if 0 is 1", "if 0 is 1\n  pass", "if 0 is 1\n  pass\nelse", "if 0 is 1\nelse\n  pass",
    "if 0 is 1\n  pass\n  else\n  pass",
    "if 0 is 1\npass\nelse\npass", "if 0 is 1\n  pass\nelse\npass", "if 0 is 1\n pass\nelse\n pass",
    "if 0 is 1\n   pass\nelse\n  pass",
    "if 0 is 1\n  pass\nelse \n  pass", "if 0 is 1\n  pass\nelse:\n  pass", "if 0 is 1:\n  pass\nelse\n  pass",
    "if 0 is 1\n  pass\nelif\n  pass", "if 0 is 1\n  set l 0\n    set l 0\nelse\n  pass",
    "if 0 is not 1\n  pass\nelse\n  pass",
    "if 0 == 1\n  pass\nelse\n  pass", "if 0 is\n  pass\nelse\n  pass", "if 0 is 1 2\n  pass\nelse\n  pass",
    "if 0 isnt 1\n  pass\nelse\n  pass", "if 0 is 1\n  pass\nelse\n  pass\nelse\n  pass",
    "if 0 is 1\n  pass\n  pass\nelse\n  pass",
    "if 0 is 1\n  pass\nelse\n  pass\n  pass", "if 0 is 1\n  set l 0\n  pass\nelse\n  pass", "if 0 is 1 pass else pass",
    "else\n  pass", "pass\nelse\n  pass", "while 0 is 1\n  pass", "while 0 is 1\n  ahead none\n  pass",
    "while 0 is 1\n  ahead none\n  behind none", "while 0 is 1\n  behind none\n  ahead none\n  pass",
    "while 0 is 1\nahead none\nbehind none\n  pass", "while 0 is 1\n  ahead none\n  behind none\npass",
    "while 0 is 1\n    ahead none\n    behind none\n  pass",
    "while 0 is 1\n  ahead none\n  behind none\n  pass\nelse\n  pass",
    "while 0 is 1\n  ahead -\n  behind none\n  pass", "while 0 is 1\n  ahead\n  behind none\n  pass",
    "while 0 is 1\n  ahead none\n  behind same 00 1\n  pass",
    "while 0 is 1\n  ahead none \n  behind none\n  pass", "while 0 is 1\n  ahead cell g 1 2\n  behind none\n  pass",
    "while 0 is 1\n\tahead none\n\tbehind none\n\tpass", "ahead none", "behind none", "both - = f - ; - = f -",
    "hold l\n  pass", "deed d takes - ; tells -",
)

# Texts of deeds that are bent ahead of the rows.
NO_HEADS = (
    "", "\n", "deed", "deed d", "deed d takes - ; tells -", "deed d takes - ; tells -\nahead none",
    "deed d takes - ; tells -\nahead none\nbehind none",
    "deed d takes - ; tells -\nahead none\nbehind none\n", "deed d takes - ; tells -\nbehind none\nahead none\npass",
    "deed d takes - ; tells -\nahead none\nahead none\npass",
    "deed d takes - ; tells -\n ahead none\nbehind none\npass",
    "deed d takes - ; tells -\nahead none\n\nbehind none\npass",
    "\ndeed d takes - ; tells -\nahead none\nbehind none\npass",
    " deed d takes - ; tells -\nahead none\nbehind none\npass",
    "deed d takes - ; tells -\nahead none\nbehind none\npass\n",
    "deed d takes - ; tells -\nahead none\nbehind none\npass ",
    "deed d takes - ; tells -\r\nahead none\r\nbehind none\r\npass",
    "deed d takes - ; tells - \nahead none\nbehind none\npass",
    "deed  d takes - ; tells -\nahead none\nbehind none\npass",
    "deed d takes ; tells -\nahead none\nbehind none\npass", "deed d takes - ; tells\nahead none\nbehind none\npass",
    "deed d takes  ; tells -\nahead none\nbehind none\npass", "deed d takes -; tells -\nahead none\nbehind none\npass",
    "deed d takes - ; Tells -\nahead none\nbehind none\npass", "deed d takes - tells -\nahead none\nbehind none\npass",
    "deed d tells - ; takes -\nahead none\nbehind none\npass",
    "deed d takes - ; tells - ; tells -\nahead none\nbehind none\npass",
    "deed D takes - ; tells -\nahead none\nbehind none\npass", "deed takes - ; tells -\nahead none\nbehind none\npass",
    "deed 1 takes - ; tells -\nahead none\nbehind none\npass",
    "deed d takes - a ; tells -\nahead none\nbehind none\npass",
    "deed d takes a a ; tells -\nahead none\nbehind none\npass",
    "deed d takes a ; tells a\nahead none\nbehind none\npass",
    "deed d takes a b c e ; tells -\nahead none\nbehind none\npass",
    "deed d takes 1 ; tells -\nahead none\nbehind none\npass",
    "deed d takes a  b ; tells -\nahead none\nbehind none\npass",
    "deed d takes - ; tells -\nahead none\nbehind cell x 1 2\npass",
    "deed d takes - ; tells -\nahead cell x 1 2\nbehind none\npass",
    "deed d takes - ; tells -\nahead same 1 2 ; cell 1 2 3\nbehind none\npass",
    "deed d takes - ; tells -\nahead\nbehind none\npass", "deed d takes - ; tells -\nahead  none\nbehind none\npass",
    "Deed d takes - ; tells -\nahead none\nbehind none\npass",
    "work d takes - ; tells -\nahead none\nbehind none\npass", "none", "pass",
)


class TextTest(unittest.TestCase):

    def refused(self, read, *things):
        for thing in things:
            with self.assertRaises(NoText, msg=repr(thing)[:200]) as caught:
                read(thing)
            self.assertIs(type(caught.exception), NoText)

    def bends(self, text):
        """All texts that are this one but for a sign, a line or a word."""
        for k in range(len(text) + 1):
            for sign in " \n-0=~;ax1":
                yield text[:k] + sign + text[k:]
                yield text[:k] + sign + text[k + 1:]
            yield text[:k] + text[k + 1:]
        for mark in ("\n", " "):
            parts = text.split(mark)
            for k in range(len(parts)):
                yield mark.join(parts[:k] + parts[k + 1:])
                yield mark.join(parts[:k] + parts[k:k + 1] * 2 + parts[k + 1:])
                yield mark.join(parts[:k] + parts[k + 1:k + 2] + parts[k:k + 1] + parts[k + 2:])

    def holds_for_bends(self, text, read, show, is_so):
        """Whatever is read of a bent text is written as just that text."""
        for bent in self.bends(text):
            try:
                thing = read(bent)
            except NoText:
                continue
            self.assertTrue(is_so(thing), bent)
            self.assertEqual(show(thing), bent)


class Claims(TextTest):

    def test_written(self):
        for some, text in CLAIMS:
            self.assertTrue(is_claim(some))
            self.assertEqual(show_claim(some), text)

    def test_read_back(self):
        for some, text in CLAIMS:
            self.assertEqual(read_claim(text), some)

    def test_names(self):
        for name in NAMES:
            for some in (claim(cell(name, 1, 2)), claim(("same", name, name)), claim(stretch(name, 0, one(name))),
                         claim(stretch(1, 0, row(name), back(name)))):
                self.assertEqual(read_claim(show_claim(some)), some)

    def test_refused(self):
        self.refused(read_claim, *NO_CLAIMS)

    def test_no_texts(self):
        self.refused(read_claim, *[thing for thing in STRANGE if thing != "none"])
        self.refused(read_claim, NOTHING, CLAIMS[1][0], b"none")

    def test_other_signs(self):
        self.refused(read_claim, "cell \u0661 1 2", "cell \u00b2 1 2", "cell \u00e4 1 2", "cell 1 2 3\r", "cell\t1 2 3")

    def test_without_end(self):
        for many in (5000, 50000):
            self.refused(read_claim, *[sign * many for sign in "019-a =~;(\n"])
            self.refused(read_claim, "cell " + "1" * many + " 2 3", "cell -" + "0" * many + " 2 3",
                         "cell " + "a" * many + " 2 3")
            self.refused(read_claim, "row x 0 =" + "9" * many, "row x 0" + " r" * many, "row x 0 " + "~" * many)
            self.refused(read_claim, " ; ".join(["cell 1 2 3"] * many), " ; " * many, "cell" + " 1" * many,
                         "(" * many + ")" * many)

    def test_bent(self):
        for some, text in CLAIMS:
            self.holds_for_bends(text, read_claim, show_claim, is_claim)

    def test_by_name(self):
        self.assertEqual(read_claim(text="none"), NOTHING)
        self.assertEqual(show_claim(claim=NOTHING), "none")


class Deeds(TextTest):

    def test_written(self):
        for some, text in DEEDS:
            self.assertTrue(is_deed(some), some)
            self.assertEqual(show_deed(some), text)

    def test_read_back(self):
        for some, text in DEEDS:
            self.assertEqual(read_deed(text), some)

    def test_made_ones(self):
        for seed in range(300):
            some = Maker(seed).deed("d")
            self.assertEqual(read_deed(show_deed(some)), some)

    def test_bent_rows(self):
        whole = "deed d takes t ; tells l\nahead none\nbehind none\n"
        self.assertTrue(is_deed(read_deed(whole + "set l t")))
        self.refused(read_deed, *[whole + rows for rows in NO_ROWS])

    def test_bent_heads(self):
        self.refused(read_deed, *NO_HEADS)

    def test_what_is_no_deed(self):
        for some in (deed(rows=(("set", "l", 0),) * 25), deed(rows=(fork(),) * 5),
                     deed(rows=(("call", (), "f", ()),) * 7),
                     deed(rows=(fork(fork(fork(fork()))),)), deed(rows=(("free", "x"),)),
                     deed(tells=("a",), takes=("a",)),
                     deed(takes=("x",), ahead=claim(stretch("x", "x"))), deed(behind=claim(cell("v", 0, 0)))):
            self.refused(read_deed, show_deed(some))

    def test_no_texts(self):
        self.refused(read_deed, *STRANGE)
        self.refused(read_deed, deed(), REVERSE, b"pass")

    def test_without_end(self):
        whole = "deed d takes t ; tells l\nahead none\nbehind none\n"
        for many in (5000, 50000):
            self.refused(read_deed, *[sign * many for sign in "019-a =~;(\n"])
            self.refused(read_deed, *[whole + sign * many for sign in "019-a =~;(\n"])
            self.refused(read_deed, whole + "set l " + "1" * many, whole + "set l " + "a" * many,
                         whole + "set " + "l" * many + " 0")
            self.refused(read_deed, whole + "set l 0\n" * many, whole + "pass\n" * many, whole + "else\n" * many)
            self.refused(read_deed, whole + "\n".join(["if 0 is 1"] * many), whole + "call" + " l" * many,
                         whole + "set" + " l" * many)
            self.refused(read_deed, "deed d takes" + " a" * many, "deed " + "d" * many, " ; " * many)
        inward = "\n".join(["  " * k + "if 0 is 1" for k in range(2000)] + ["  " * 2000 + "pass"])
        self.refused(read_deed, whole + inward)
        outward = [line for k in range(2000)[::-1] for line in ("  " * k + "else", "  " * k + "  pass")]
        self.refused(read_deed, whole + "\n".join([inward] + outward))

    def test_bent(self):
        for some, text in DEEDS:
            self.holds_for_bends(text, read_deed, show_deed, is_deed)

    def test_by_name(self):
        self.assertEqual(read_deed(text=REVERSE_TEXT), REVERSE)
        self.assertEqual(show_deed(deed=REVERSE), REVERSE_TEXT)
