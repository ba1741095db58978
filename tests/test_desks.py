"""Point 21: the desk."""

import random
import unittest

from cellvouch.desks import Desk
from cellvouch.errors import NoName, NoRow, NoText
from cellvouch.machine import run
from tests.samples import MIXED_TEXT, REVERSE_TEXT, STRANGE
from tests.shelf import BY_NAME, DEEDS, TEXTS

ECHO = "deed echo takes a b ; tells c d\nahead none\nbehind none\nset c a\nset d b"
MAKER = "deed maker takes - ; tells -\nahead none\nbehind none\nnew a 1 -2\nnew a a a"
CALLER = "deed caller takes x ; tells -\nahead none\nbehind none\ncall - = nobody x"
LOOP = "deed loop takes - ; tells -\nahead none\nbehind none\nwhile 0 is 0\n  ahead none\n  behind none\n  pass"
DEEP = "deed deep takes - ; tells -\nahead none\nbehind none\ncall - = deep -"


def desk_of(*texts):
    """A desk with these deeds of which none is still to be told as looked at."""
    desk = Desk()
    for text in texts:
        desk.say("keep\n" + text)
    desk.say("looked")
    return desk


class DeskTest(unittest.TestCase):

    def answers(self, desk, row, answer):
        told = desk.say(row)
        self.assertIsInstance(told, str)
        self.assertEqual(told, answer, row)

    def refused(self, kind, desk, row):
        with self.assertRaises(kind, msg=repr(row)) as caught:
            desk.say(row)
        return caught.exception


class Answers(DeskTest):

    def test_keep(self):
        desk = Desk()
        for text in TEXTS.strip("\n").split("\n\n"):
            self.answers(desk, "keep\n" + text, text.split()[1])
        self.answers(desk, "names", " ".join(sorted(BY_NAME)))
        self.answers(desk, "keep\n" + MIXED_TEXT, "mixed")

    def test_names(self):
        desk = Desk()
        self.answers(desk, "names", "none")
        for text in (REVERSE_TEXT, ECHO, MAKER):
            desk.say("keep\n" + text)
        self.answers(desk, "names", "echo maker rev")

    def test_looked(self):
        desk = Desk()
        self.answers(desk, "looked", "none")
        for text in (ECHO, CALLER):
            desk.say("keep\n" + text)
        self.answers(desk, "looked", "caller echo")
        self.answers(desk, "looked", "none")
        desk.say("keep\n" + CALLER.replace("caller", "nobody"))
        self.answers(desk, "looked", "caller nobody")
        desk.say("drop nobody")
        self.answers(desk, "looked", "caller")

    def test_drop(self):
        desk = desk_of(ECHO, MAKER)
        self.answers(desk, "drop echo", "ok")
        self.answers(desk, "names", "maker")
        self.answers(desk, "drop maker", "ok")
        self.answers(desk, "names", "none")

    def test_show(self):
        desk = desk_of(REVERSE_TEXT, ECHO, MIXED_TEXT)
        for text in (REVERSE_TEXT, ECHO, MIXED_TEXT):
            self.answers(desk, "show " + text.split()[1], text)

    def test_verdict(self):
        desk = desk_of(REVERSE_TEXT, MAKER, CALLER, REVERSE_TEXT.replace("rev", "bad").replace("row y 0 ~r", "none"))
        for name, told in (("rev", "let by"), ("maker", "loose"), ("caller", "absent nobody"), ("bad", "loose")):
            self.answers(desk, "verdict " + name, told)
        desk.say("keep\n" + CALLER.replace("caller", "nobody"))
        self.answers(desk, "verdict caller", "let by")
        self.answers(desk, "verdict nobody", "let by")

    def test_a_deed_called_as_a_row_is(self):
        desk = desk_of(*[MAKER.replace("maker", name) for name in ("names", "looked", "run", "none", "drop")])
        self.answers(desk, "names", "drop looked names none run")
        self.answers(desk, "run run - | -", "ends - | 1:1:-2 2:1:1")
        self.answers(desk, "drop names", "ok")
        self.answers(desk, "drop drop", "ok")
        self.answers(desk, "show none", MAKER.replace("maker", "none"))


class Runs(DeskTest):

    def setUp(self):
        self.desk = desk_of(REVERSE_TEXT, ECHO, MAKER, CALLER, LOOP, DEEP)

    def test_ends(self):
        self.answers(self.desk, "run rev 1 | 1:10:5 3:30:0 5:50:3", "ends 3 | 1:10:0 3:30:5 5:50:1")
        self.answers(self.desk, "run rev 0 | -", "ends 0 | -")
        self.answers(self.desk, "run echo 5 -6 | -", "ends 5 -6 | -")
        self.answers(self.desk, "run echo 0 999999999 | 2:0:-1", "ends 0 999999999 | 2:0:-1")
        self.answers(self.desk, "run maker - | 1:5:5 999999999:-999999999:0",
                     "ends - | 1:5:5 2:1:-2 3:2:2 999999999:-999999999:0")
        self.answers(self.desk, "run maker - | -", "ends - | 1:1:-2 2:1:1")

    def test_others(self):
        self.answers(self.desk, "run rev 7 | 1:10:5", "fault rev 3")
        self.answers(self.desk, "run caller 1 | -", "absent nobody")
        self.answers(self.desk, "run loop - | -", "steps")
        self.answers(self.desk, "run deep - | -", "deep")

    def test_a_fault_in_a_called_deed(self):
        self.desk.say("keep\n" + CALLER.replace("caller", "other").replace("nobody", "rev").replace("call -", "call y"))
        self.answers(self.desk, "run other 7 | -", "fault rev 3")
        self.desk.say("keep\n" + MAKER.replace("maker", "nobody").replace("takes -", "takes p"))
        self.answers(self.desk, "run caller 7 | 2:0:0", "ends - | 1:1:-2 2:0:0 3:1:1")

    def test_a_thousand_steps(self):
        desk = desk_of(LOOP.replace("pass", "set a 1").replace("0 is 0", "a is 0") + "\nset b 0")
        self.answers(desk, "run loop - | -", "ends - | -")

    def test_a_thousand_rows_and_no_more(self):
        walk = ("deed d takes x ; tells -\nahead none\nbehind none\nset z x\nwhile z isn't 0\n  ahead none\n"
                "  behind none\n  get z z next")
        cells = " ".join([f"{k}:0:{k + 1}" for k in range(1, 499)] + ["499:0:0"])
        # Each of 499 cells takes a test and a get, and there are a set and a last test.
        self.answers(desk_of(walk), "run d 1 | " + cells, "ends - | " + cells)
        self.answers(desk_of(walk + "\nset z 0"), "run d 1 | " + cells, "steps")
        self.answers(desk_of(walk.replace("set z x", "set z x\nset z x")), "run d 1 | " + cells, "steps")

    def test_as_run_tells(self):
        any_of = random.Random(2)
        desk = desk_of(*TEXTS.strip("\n").split("\n\n"))
        for _ in range(300):
            some = any_of.choice(DEEDS)
            numbers = tuple([any_of.randint(-1, 5) for _ in some[1]])
            heap = tuple([(at, any_of.randint(-3, 3), any_of.randint(0, 5))
                          for at in sorted(any_of.sample(range(1, 7), any_of.randint(0, 4)))])
            row = f"run {some[0]} {' '.join(map(str, numbers)) or '-'} | "
            told = run(DEEDS, some[0], numbers, heap)
            answer = desk.say(row + (" ".join([":".join(map(str, each)) for each in heap]) or "-"))
            self.assertEqual(answer.split(" ")[0], told[0])
            if told[0] == "ends":
                left, _, right = answer[5:].partition(" | ")
                self.assertEqual(left, " ".join(map(str, told[1])) or "-")
                self.assertEqual(right, " ".join([":".join(map(str, each)) for each in told[2]]) or "-")
            else:
                self.assertEqual(answer, " ".join(map(str, told)))


class Refused(DeskTest):

    def setUp(self):
        self.desk = desk_of(REVERSE_TEXT, ECHO, MAKER)
        self.before = [self.desk.say(row) for row in ("names", "show rev", "show echo", "show maker")]

    def tearDown(self):
        self.assertEqual(self.desk.say("looked"), "none")
        self.assertEqual([self.desk.say(row) for row in ("names", "show rev", "show echo", "show maker")], self.before)

    def test_no_texts(self):
        for thing in STRANGE + (("names",), ["names"], {"names": 1}):
            self.refused(NoRow, self.desk, thing)

    def test_no_rows(self):
        right = ("names", "looked", "drop rev", "show rev", "verdict rev", "run rev 1 | 1:10:0", "run maker - | -")
        for row in right:
            for bent in (" " + row, row + " ", "\n" + row, row + "\n", row.replace(" ", "  ", 1) if " " in row else "",
                         row.replace(" ", "\n", 1) if " " in row else "\n", row.upper(), row + " x", row + " - -",
                         row[1:], row.split(" ")[0] + "x" + row[len(row.split(" ")[0]):], "x " + row):
                self.refused(NoRow, self.desk, bent)
        for row in ("", " ", "keep", "keep ", "keep \n" + ECHO, "keep x\n" + ECHO, " keep\n" + ECHO, "Keep\n" + ECHO,
                    "keep" + ECHO, "keep " + ECHO, "drop", "show", "verdict", "drop ", "show ", "verdict ", "run",
                    "run ", "names rev", "looked rev", "other", "other rev", "drop rev echo", "none", ECHO,
                    "names\nlooked", "drop rev\n", "drop \n", "let by"):
            self.refused(NoRow, self.desk, row)

    def test_runs(self):
        for row in ("run rev", "run rev 1", "run rev 1 |", "run rev | -", "run rev 1 -", "run rev 1 | - -",
                    "run rev - - | -", "run rev 1 | - | -", "run 1 | -", "run rev 1|-", "run rev 1 |-",
                    "run rev 1 | 1:2", "run rev 1 | 1:2:3:4", "run rev 1 | 1:2:", "run rev 1 | :1:2", "run rev 1 | 1 2 3",
                    "run rev 1 | 1:2:x", "run rev 1 | 1.2.3", "run rev 1 | (1,2,3)", "run rev 1 | 1:-:3",
                    "run rev 1 | 0:1:1", "run rev 1 | -1:1:1", "run rev 1 | 2:0:0 1:0:0", "run rev 1 | 1:0:0 1:0:0",
                    "run rev 1 | 1:0:0 1:0:1", "run rev 1 | - 1:0:0", "run rev 1 | 1:0:0 -", "run rev 1 | 1:0:0  2:0:0",
                    "run rev  1 | -", "run  rev 1 | -", "run rev 1  | -", "run rev 1 |  -", "run rev 1 | ",
                    "run rev 1 | -\n", "run rev\n1 | -", "run\nrev 1 | -", "run rev 1 || -", "run rev 1 : -"):
            self.refused(NoRow, self.desk, row)

    def test_numbers_in_other_forms(self):
        for number in ("x", "rev", "01", "00", "-0", "-01", "+1", "1.0", "1_0", "1000000000", "-1000000000", "--1", "-",
                       "0x1", "1,", "True", "9" * 5000, "-" + "9" * 5000, "0" * 5000, "1-"):
            if number != "-":
                self.refused(NoRow, self.desk, f"run rev {number} | -")
            for cell in (f"{number}:0:0", f"1:{number}:0", f"1:0:{number}"):
                self.refused(NoRow, self.desk, f"run rev 1 | {cell}")
            self.refused(NoRow, self.desk, f"run nobody {number} 1 | -")

    def test_too_many_and_too_few_numbers(self):
        for row in ("run rev - | -", "run rev 1 2 | -", "run echo 1 | -", "run echo - | -", "run echo 1 2 3 | -",
                    "run maker 0 | -"):
            self.refused(NoRow, self.desk, row)

    def test_names_that_are_not_there(self):
        for name in ("nobody", "Rev", "rev!", "re", "revv", "-", "|", "0", "keep", ":", "a" * 5000, "(" * 5000):
            for row in (f"drop {name}", f"show {name}", f"verdict {name}", f"run {name} - | -",
                        f"run {name} 1 2 3 4 5 | 1:0:0"):
                self.assertEqual(self.refused(NoName, self.desk, row).name, name)

    def test_which_goes_first(self):
        self.refused(NoRow, self.desk, "run nobody 01 | -")
        self.refused(NoRow, self.desk, "run nobody 1 | 2:0:0 1:0:0")
        self.refused(NoName, self.desk, "run nobody 1 2 3 | -")
        self.refused(NoRow, self.desk, "drop nobody nobody")
        self.refused(NoRow, self.desk, "run rev 1 2 | -")

    def test_texts_that_write_no_deed(self):
        for text in ("", "\n", " ", ECHO + "\n", ECHO + "\n\n", "\n" + ECHO, ECHO.replace("set c a", "set c  a"),
                     ECHO.replace("set c a", "set c q"), ECHO.replace("tells c d", "tells a"), "echo", "none",
                     ECHO.replace("set", "put"), "keep\n" + ECHO, ECHO + " ", ECHO.replace("\n", " "), "(" * 5000,
                     ECHO.replace("set c a", "set c " + "9" * 5000), ECHO + "\n" + ECHO):
            self.refused(NoText, self.desk, "keep\n" + text)

    def test_by_name(self):
        self.assertEqual(self.desk.say(text="names"), "echo maker rev")

    def test_desks_of_their_own(self):
        self.assertEqual(Desk().say("names"), "none")
        self.assertEqual(vars(Desk()).keys(), vars(self.desk).keys())
