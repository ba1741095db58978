"""Points 18 and 3: verdicts, and what they promise."""

import copy
import random
import unittest

from cellvouch.deeds import ghosts_of, is_deed
from cellvouch.heaps import is_heap, walked
from cellvouch.loose import pieces, played
from cellvouch.machine import run
from cellvouch.texts import read_deed, show_deed
from cellvouch.verdicts import verdict
from tests.bending import bent
from tests.samples import NOTHING, REVERSE, deed
from tests.second import Chance, Dead, failing_run, heap_from
from tests.shelf import BY_NAME, DEEDS, without_row


class VerdictTest(unittest.TestCase):

    def told(self, deeds, name):
        """The verdict; where it tells a loose run, played tells that it fails."""
        told = verdict(deeds, name)
        if told is not None and told[0] == "loose":
            self.assertEqual(len(told), 2)
            self.check_told(deeds, name, told[1])
        return told

    def check_told(self, deeds, name, loose):
        how = played(deeds, name, loose)
        self.assertIsNotNone(how, (show_deed({some[0]: some for some in deeds}[name]), loose))
        piece, worths, heap, draws = loose
        self.assertTrue(isinstance(piece, int) and isinstance(worths, dict) and is_heap(heap))
        self.assertIsInstance(draws, list)
        return how

    def lets_by(self, *texts):
        deeds = [read_deed(text) for text in texts]
        self.assertIsNone(self.told(deeds, deeds[0][0]), texts[0])

    def fails(self, how, *texts):
        """The verdict's loose run fails so."""
        deeds = [read_deed(text) for text in texts]
        told = self.told(deeds, deeds[0][0])
        self.assertIsNotNone(told, texts[0])
        self.assertEqual(played(deeds, deeds[0][0], told[1]), how, texts[0])


def written(rows, *, takes="-", tells="-", ahead="none", behind="none"):
    """The text of a deed d with these rows."""
    return "\n".join([f"deed d takes {takes} ; tells {tells}", "ahead " + ahead, "behind " + behind] + list(rows))


class Shelf(VerdictTest):

    def test_all_are_let_by(self):
        for name in BY_NAME:
            self.assertIsNone(self.told(DEEDS, name), name)
        self.assertIsNone(verdict(name="rev", deeds=[REVERSE]))

    def test_with_a_row_less(self):
        counted = [0, 0]
        for some in DEEDS:
            text = show_deed(some)
            for row in range(3, text.count("\n") + 1):
                try:
                    less = read_deed(without_row(text, row))
                except ValueError:
                    continue
                deeds = [other for other in DEEDS if other[0] != some[0]] + [less]
                told = self.told(deeds, some[0])
                counted[told is None] += 1
                if told is None:
                    self.assertIsNone(failing_run(deeds, less, 200, text))
        self.assertGreater(min(counted), 0)
        self.assertGreater(counted[0], 30)

    def test_with_another_claim(self):
        for name, old, new, how in (
                ("rev", "behind row y 0 ~r", "behind row y 0 r", ("end", None)),
                ("rev", "  behind row y 0 ~p q", "  behind row y 0 p q", ("end", None)),
                ("rev", "ahead row x 0 r", "ahead cell x v m ; row m 0 r", ("end", None)),
                ("append", "behind row z 0 r s", "behind row z 0 s r", ("end", None)),
                ("copy", "behind row x 0 r ; row y 0 r", "behind row x 0 r ; row y 0 ~r", ("end", None)),
                ("copyrec", "behind row x 0 r ; row y 0 r", "behind row y 0 r", ("end", None)),
                ("freeall", "  behind none", "  behind row z 0 p", ("end", None)),
                ("cut", " ; apart x z", "", ("fault", 0)),
                ("pop", " ; apart x 0", "", ("fault", 0)),
                ("swap", "behind cell x w n ; cell y v m", "behind cell x v n ; cell y w m", ("end", None)),
                ("second", "same y b", "same y a", ("end", None)),
                ("nested", "  behind row x a s t ; row a 0 u", "  behind row x a t s ; row a 0 u", ("end", None)),
                ("mark", "behind row x 7 r ; cell 7 1 n", "behind row x 7 r ; cell 7 2 n", ("end", None)),
                ("ring", "behind cell y x y", "behind cell y x 0", ("end", None))):
            text = show_deed(BY_NAME[name])
            self.assertIn(old, text)
            some = read_deed(text.replace(old, new))
            deeds = [other for other in DEEDS if other[0] != name] + [some]
            told = self.told(deeds, name)
            self.assertIsNotNone(told, (name, new))
            self.assertEqual(played(deeds, name, told[1]), how, (name, new))


class Kinds(VerdictTest):
    """Each kind of row, let by and not."""

    def test_set(self):
        self.lets_by(written(["set a 4"], tells="a", behind="same a 4"))
        self.lets_by(written(["set a x"], takes="x", tells="a", behind="same a x"))
        self.fails(("end", None), written(["set a 4"], tells="a", behind="same a 5"))
        self.fails(("end", None), written(["set a x"], takes="x", tells="a", behind="same a 0"))
        self.fails(("end", None), written(["set b 4"], tells="a", behind="apart a 0"))

    def test_new(self):
        self.lets_by(written(["new a 1 x"], takes="x", tells="a", behind="cell a 1 x"))
        self.lets_by(written(["new a 1 x"], takes="x", tells="a", behind="cell a 1 x ; apart a 0"))
        self.lets_by(written(["new a 1 2"], takes="x", tells="a", ahead="cell x v n",
                             behind="cell a 1 2 ; cell x v n ; apart a x"))
        self.lets_by(written(["new a a a"], tells="a", behind="cell a 0 0"))
        self.fails(("end", None), written(["new a 1 x"], takes="x", tells="a", behind="cell a 1 x ; apart a x"))
        self.fails(("end", None), written(["new a 1 2"]))
        self.fails(("end", None), written(["new a 1 2"], tells="a", behind="cell a 2 1"))

    def test_free(self):
        self.lets_by(written(["free x"], takes="x", ahead="cell x v n"))
        self.lets_by(written(["free x", "new a 1 2", "free a"], takes="x", ahead="cell x v n"))
        self.fails(("fault", 0), written(["free x"], takes="x"))
        self.fails(("fault", 1), written(["free x", "free x"], takes="x", ahead="cell x v n"))
        self.fails(("end", None), written(["free x"], takes="x", ahead="cell x v n ; cell n w m"))
        self.fails(("fault", 2), written(["free x", "new a 1 2", "free x"], takes="x", ahead="cell x v n",
                                         tells="a", behind="cell a 1 2"))

    def test_a_new_cell_may_lie_where_one_was_freed(self):
        rows = ["free x", "new a 1 2", "if a is x", "  free 99", "else", "  free a"]
        self.fails(("fault", 3), written(rows, takes="x", ahead="cell x v n"))
        rows = ["new a 1 2", "free x", "if a is x", "  free 99", "else", "  free a"]
        self.lets_by(written(rows, takes="x", ahead="cell x v n"))

    def test_get(self):
        self.lets_by(written(["get a x worth", "get b x next"], takes="x", tells="a b", ahead="cell x v n",
                             behind="cell x v n ; same a v ; same b n"))
        self.lets_by(written(["get a x next", "get a a worth"], takes="x", tells="a", ahead="cell x v n ; cell n w m",
                             behind="cell x v n ; cell n a m ; same a w"))
        self.fails(("end", None), written(["get a x worth"], takes="x", tells="a", ahead="cell x v n",
                                          behind="cell x v n ; same a n"))
        self.fails(("fault", 1), written(["get a x next", "get a a next"], takes="x", ahead="cell x v n",
                                         behind="cell x v n"))
        self.fails(("fault", 0), written(["get a x next"], takes="x y", ahead="cell y v n", behind="cell y v n"))
        self.fails(("fault", 0), written(["get a a next"], takes="x", ahead="cell x v n", behind="cell x v n"))

    def test_put(self):
        self.lets_by(written(["put x worth x", "put x next 7"], takes="x", ahead="cell x v n", behind="cell x x 7"))
        self.lets_by(written(["put x worth 3"], takes="x", ahead="cell x 3 n", behind="cell x 3 n"))
        self.fails(("end", None), written(["put x worth 3"], takes="x", ahead="cell x v n", behind="cell x v n"))
        self.fails(("end", None), written(["put x next 3"], takes="x", ahead="cell x v n", behind="cell x v n"))
        self.fails(("fault", 0), written(["put 3 next 3"]))

    def test_if(self):
        rows = ["if x is y", "  set a 1", "else", "  set a 2"]
        self.lets_by(written(rows, takes="x y", tells="a", ahead="same x y", behind="same a 1"))
        self.lets_by(written(rows, takes="x y", tells="a", ahead="apart x y", behind="same a 2"))
        self.lets_by(written(rows, takes="x y", tells="a", behind="apart a 0"))
        self.fails(("end", None), written(rows, takes="x y", tells="a", behind="same a 1"))
        self.fails(("end", None), written(rows, takes="x y", tells="a", behind="same a 2"))
        self.lets_by(written(["if x isn't y", "  free 9", "else", "  pass"], takes="x y", ahead="same x y"))
        self.fails(("fault", 1), written(["if x isn't y", "  free 9", "else", "  pass"], takes="x y"))
        self.lets_by(written(["if x is 0", "  pass", "else", "  get a x next"], takes="x", ahead="row x 0 r",
                             behind="row x 0 r"))
        self.fails(("fault", 1), written(["if x is 3", "  pass", "else", "  get a x next"], takes="x",
                                         ahead="row x 0 r", behind="row x 0 r"))

    def test_while(self):
        loop = ["while x is 0", "  ahead cell y v n", "  behind cell y v n", "  get x y worth"]
        loop = [row.replace("get x", "get a") for row in loop]
        self.lets_by(written(loop, takes="x y", ahead="cell y v n", behind="cell y v n"))
        self.fails(("lacks", 0), written(loop, takes="x y"))
        self.fails(("end", None), written([row.replace("behind cell y v n", "behind cell y n v") for row in loop],
                                          takes="x y", ahead="cell y v n", behind="cell y n v"))
        self.fails(("fault", 1), written(loop[:3] + ["  get a 9 worth"], takes="x y", ahead="cell y v n",
                                         behind="cell y v n"))
        self.fails(("lacks", 0), written(loop[:3] + ["  free y"], takes="x y", ahead="cell y v n",
                                         behind="cell y v n"))

    def test_call(self):
        other = "deed f takes p ; tells q\nahead cell p v n\nbehind cell q v n\nset q p"
        self.lets_by(written(["call a = f x"], takes="x", tells="a", ahead="cell x v n", behind="cell a v n"), other)
        self.lets_by(written(["call - = d x"], takes="x", ahead="cell x v n", behind="cell x v n"))
        self.fails(("end", None), written(["call a = f x"], takes="x", tells="a", ahead="cell x v n",
                                          behind="cell a v n ; same a x"), other)
        self.fails(("lacks", 0), written(["call a = f x"], takes="x"), other)
        self.fails(("lacks", 1), written(["call a = f x", "call a = f x"], takes="x", ahead="cell x v n"), other)
        self.lets_by(written(["call a = f x", "call b = f a", "free b"], takes="x", ahead="cell x v n"), other)


class Edges(VerdictTest):

    def test_absent_ahead_of_all_else(self):
        some = deed("d", (), (), NOTHING, NOTHING, (
            ("free", 9), ("if", 0, "is", 1, (("call", (), "f", (1,)),), (("call", (), "g", ()),)),
            ("call", (), "e", ())))
        right = {"e": deed("e"), "f": deed("f", ("p",)), "g": deed("g")}
        for there, told in (("", "f"), ("e", "f"), ("eg", "f"), ("f", "g"), ("ef", "g"), ("fg", "e")):
            self.assertEqual(verdict([some] + [right[name] for name in there], "d"), ("absent", told))
        self.assertEqual(self.told([some] + list(right.values()), "d")[0], "loose")
        for wrong in (deed("f"), deed("f", ("p", "q")), deed("f", ("p",), ("q",))):
            self.assertEqual(verdict([some, right["e"], right["g"], wrong], "d"), ("absent", "f"))

    def test_absent_within_a_called_deed_is_nothing(self):
        some = deed("d", rows=(("call", (), "e", ()),))
        self.assertIsNone(verdict([some, deed("e", rows=(("call", (), "f", ()),))], "d"))

    def test_a_called_deed_need_not_keep_its_claims(self):
        liar = read_deed("deed f takes - ; tells q\nahead none\nbehind cell q 1 2\nset q 5")
        some = read_deed(written(["call a = f -", "free a"]))
        self.assertIsNone(self.told([some, liar], "d"))
        self.assertEqual(self.told([some, liar], "f")[0], "loose")

    def test_a_piece_that_no_heap_begins(self):
        self.lets_by(written(["free 9"], ahead="same 1 2"))
        self.lets_by(written(["free 9"], takes="x", ahead="cell x v n ; cell x w m"))
        self.lets_by(written(["while 0 is 1", "  ahead none", "  behind none", "  free 9"]))
        self.lets_by(written(["while 0 is 0", "  ahead none", "  behind same 1 2", "  pass", "free 9"]))
        self.fails(("end", None), written(["while 0 is 1", "  ahead none", "  behind same 1 2", "  pass"]))

    def test_behind_a_leap_behind_which_no_heap_can_come(self):
        never = "deed f takes - ; tells -\nahead none\nbehind cell 3 0 0 ; cell 3 0 0\npass"
        self.lets_by(written(["call - = f -", "free 9"]), never)
        taken = "deed f takes - ; tells -\nahead none\nbehind cell 3 0 0\npass"
        self.lets_by(written(["call - = f -", "free 9"], ahead="cell 3 v n"), taken)
        self.fails(("fault", 1), written(["call - = f -", "free 9"], ahead="cell 4 v n"), taken)

    def test_only_by_a_fact(self):
        claim = "row x y r ; row y 0 s"
        self.lets_by(written(["get a x next"], takes="x y", ahead=claim + " ; apart x y", behind=claim))
        self.fails(("fault", 0), written(["get a x next"], takes="x y", ahead=claim, behind=claim))
        self.fails(("end", None), written(["set a 3"], takes="x y", ahead=claim, behind=claim + " ; apart x y"))
        rows = ["if x is 3", "  free 8", "else", "  pass"]
        self.fails(("fault", 1), written(rows, takes="x y"))
        self.lets_by(written(rows, takes="x y", ahead="apart x 3"))
        self.lets_by(written(rows, takes="x y", ahead="same y x ; same y 4"))
        self.lets_by(written(rows, takes="x y", ahead="same y x ; apart y 3"))

    def test_only_by_a_ghost(self):
        rows = ["get a x worth", "put x worth 0", "put x worth a"]
        self.lets_by(written(rows, takes="x", ahead="cell x v n", behind="cell x v n"))
        self.fails(("end", None), written(rows[:2], takes="x", ahead="cell x v n", behind="cell x v n"))
        self.lets_by(written(rows[:2], takes="x", ahead="cell x v n", behind="cell x w n"))
        loop = ["set z x", "while z isn't 0", "  ahead row z 0 p", "  behind row z 0 {}", "  get a z worth",
                "  put z worth a", "  set z 0"]
        told = [row.format("q") for row in loop]
        self.fails(("end", None), written(told, takes="x", ahead="row x 0 r", behind="row x 0 r"))

    def test_only_by_a_word_turned_about(self):
        self.lets_by(show_deed(BY_NAME["twice"]), show_deed(BY_NAME["rev"]))
        once = "deed d takes x ; tells y\nahead row x 0 r\nbehind row y 0 r\ncall y = rev x"
        self.fails(("end", None), once, show_deed(BY_NAME["rev"]))
        self.lets_by(once.replace("behind row y 0 r", "behind row y 0 ~r"), show_deed(BY_NAME["rev"]))
        thrice = once + "\ncall y = rev y\ncall y = rev y"
        self.fails(("end", None), thrice, show_deed(BY_NAME["rev"]))
        self.lets_by(thrice.replace("behind row y 0 r", "behind row y 0 ~r"), show_deed(BY_NAME["rev"]))

    def test_rows_of_one_number_are_their_own_turned_ones(self):
        rows = ["get a x next", "if a is 0", "  set y 1", "else", "  set y 2"]
        text = written(["get a x next", "if a isn't 0", "  free 9", "else", "  pass"], takes="x",
                       ahead="row x 0 r ; apart x 0", behind="row x 0 ~r")
        self.fails(("fault", 2), text)
        self.fails(("end", None), text.replace("  free 9", "  pass"))
        less = written(["get a x next", "put x next 0", "call - = freeall a"], takes="x",
                       ahead="cell x v n ; row n 0 r", behind="row x 0 =v")
        self.lets_by(less, show_deed(BY_NAME["freeall"]))
        self.lets_by(written(rows, takes="x", tells="y", ahead="cell x v n ; row n 0 r",
                             behind="cell x v n ; row n 0 r ; apart y 0"))

    def test_locals_of_a_loop(self):
        rows = ["set a 4", "set b 5", "while 0 is 0", "  ahead none", "  behind none", "  set b 6"]
        self.lets_by(written(rows, tells="a", behind="same a 4"))
        self.fails(("end", None), written(rows, tells="b", behind="same b 5"))
        self.fails(("end", None), written(rows, tells="b", behind="same b 6"))
        rows[4] = "  behind same b 6"
        self.lets_by(written(rows, tells="b", behind="same b 6"))
        rows[2] = "while a is 4"
        self.fails(("end", None), written(rows, tells="b", behind="same b 6"))
        rows[2] = "while b isn't 6"
        self.lets_by(written(rows, tells="b", behind="same b 6"))

    def test_ghosts_of_loops_around(self):
        loops = ["while x isn't 0", "  ahead cell x w m", "  behind cell x w m", "  while x isn't 0",
                 "    ahead cell x w m"]
        head = {"takes": "x", "ahead": "cell x v n", "behind": "cell x v n"}
        self.lets_by(written(loops + ["    behind cell x w m", "    get a x next"], **head))
        self.fails(("lacks", 1), written(loops + ["    behind cell x w m", "    put x worth 0"], **head))
        self.fails(("end", None), written(loops + ["    behind cell x u m", "    get a x next"], **head))

    def test_told_anew(self):
        some = read_deed(written(["call y = rev x", "free 9"], takes="x", tells="y", ahead="row x 0 r",
                                 behind="row y 0 r"))
        deeds = [some, REVERSE]
        kept = copy.deepcopy(deeds)
        first = verdict(deeds, "d")[1]
        first[1].clear()
        first[3].clear()
        self.assertIsNotNone(played(deeds, "d", verdict(deeds, "d")[1]))
        self.assertEqual(deeds, kept)


class Limits(VerdictTest):

    five = "row x 0 p ; row y 0 q ; row z 0 r ; row 7 0 p q r ~p ~q ~r ; row 8 0 ~r ~r q q p p"
    facts = " ; apart x 0 ; apart y x ; apart 7 z ; apart y z"
    same = f"deed f takes x y z ; tells -\nahead {five}\nbehind {five}\npass"

    def test_claims_of_five_parts_and_words_of_six_pieces(self):
        head = {"takes": "x y z", "ahead": self.five + self.facts, "behind": self.five + self.facts}
        rows = ["call - = f x y z", "get a x next", "get b 7 next", "put x next a"] * 6
        self.lets_by(written(rows, **head), self.same)
        self.fails(("fault", 24 - 2), written(rows[:22] + ["get b y next"], **head), self.same)
        worse = self.five.replace("~r ~r q q p p", "~r ~r q p q p")
        self.fails(("end", None), written(rows, **{**head, "behind": worse}), self.same)

    def test_loops_within_one_another(self):
        loop = [f"while a is 0\n  ahead {self.five}\n  behind {self.five}", "  set a 1",
                f"  while b is 0\n    ahead {self.five}\n    behind {self.five}", "    call - = f x y z",
                "    set b 1", "  set b 0"]
        head = {"takes": "x y z", "ahead": self.five, "behind": self.five}
        self.lets_by(written(loop * 2, **head), self.same)
        self.fails(("fault", 6), written((loop + ["  free b"]) * 2, **head), self.same)

    def test_stretches_of_which_each_may_be_empty(self):
        chain = "row a b p ; row b c q ; row c 7 r ; row 7 8 s ; cell 8 v w"
        make = f"deed h takes - ; tells a b c\nahead none\nbehind {chain}\npass"
        drop = f"deed g takes a b c ; tells -\nahead {chain}\nbehind none\npass"
        rows = ["call a b c = h -", "get l a next", "get l b next", "get l c next", "call - = g a b c"]
        self.lets_by(written(rows * 3), make, drop)
        self.fails(("lacks", 14), written(rows * 2 + rows[:4] + ["call - = g a c b"]), make, drop)
        self.lets_by(written(rows * 2 + rows[:2] + ["get l l next", rows[4]]), make, drop)
        self.fails(("fault", 13), written(rows * 2 + rows[:2] + ["get l l next"] * 2 + rows[4:]), make, drop)


class Promise(VerdictTest):
    """Deeds that are let by, on the machine."""

    def start(self, some, chance):
        """A heap of which a part is the claim ahead, the rest of it, and numbers and ghosts."""
        worths = {name: chance.number() for name in some[1]}
        part = chance.lay(some[3], worths)
        rest = {}
        for _ in range(chance.any.randint(0, 3)):
            address = chance.address(list(part) + list(rest))
            rest[address] = (chance.number(), chance.number())
        return part, rest, worths

    def check_run(self, some, part, rest, worths, chance):
        numbers = tuple([worths[name] for name in some[1]])
        places = tuple([chance.any.randint(1, 30) for _ in range(chance.any.randint(0, 4))])
        heap = heap_from({**part, **rest})
        told = run(DEEDS, some[0], numbers, heap, places=places)
        self.assertEqual(told[0], "ends", (some[0], numbers, heap))
        left = [cell for cell in told[2] if cell[0] not in rest]
        self.assertEqual(tuple([cell for cell in told[2] if cell[0] in rest]), heap_from(rest))
        known = {name: worths[name] for name in list(some[1]) + ghosts_of(some)}
        known.update(zip(some[2], told[1]))
        behind = walked(some[4], tuple(left), known)
        self.assertIsNotNone(behind, (some[0], numbers, heap, told))
        self.assertEqual(behind[0], tuple(left))

    def test_real_runs(self):
        for some in DEEDS:
            done = 0
            for seed in range(400):
                chance = Chance(seed, (0, 1, 2, 3, 4, 5, 6, 7), longest=4)
                try:
                    part, rest, worths = self.start(some, chance)
                except Dead:
                    continue
                self.check_run(some, part, rest, worths, chance)
                done += 1
            self.assertGreater(done, 10, some[0])


class AgainstAnotherReading(VerdictTest):

    def test_bent_deeds(self):
        any_of = random.Random(7)
        counted = [0, 0]
        for k in range(2500):
            some = DEEDS[k % len(DEEDS)]
            for _ in range(any_of.choice([1, 1, 2, 3])):
                some = bent(any_of, some)
            deeds = [other for other in DEEDS if other[0] != some[0]] + [some]
            told = self.told(deeds, some[0])
            counted[told is None] += 1
            if told is None:
                found = failing_run(deeds, some, 150, k)
                self.assertIsNone(found, show_deed(some))
        self.assertGreater(min(counted), 150)

    def test_pieces_told(self):
        found = {}
        any_of = random.Random(3)
        for k in range(400):
            some = bent(any_of, BY_NAME["nested"])
            self.assertTrue(is_deed(some))
            told = self.told([some], "nested")
            if told is not None:
                self.assertLess(told[1][0], pieces(some))
                found[told[1][0]] = True
        self.assertGreaterEqual(len(found), 3)
