"""Points 13 to 16: the pieces of deeds, and loose runs that are played."""

import copy
import random
import unittest

from cellvouch.loose import pieces, played
from cellvouch.texts import read_deed
from tests.samples import (
    NOTHING, REVERSE, STRANGE, Maker, cell, claim, deed, fork, loop, one, row, stretch,
)
from tests.second import some_run
from tests.shelf import BY_NAME, DEEDS


def play(text, told, *others):
    """What is told of a loose run of a deed that is written so."""
    some = read_deed(text)
    return played([some] + list(others), some[0], told)


def play_rows(rows, draws, *, takes=(), worths=(), ahead="none", behind="none", tells=(), heap=(), others=()):
    """What is told of a loose run of piece 0 of a deed with these rows, of which each row is a text."""
    head = f"deed d takes {' '.join(takes) or '-'} ; tells {' '.join(tells) or '-'}"
    text = "\n".join([head, "ahead " + ahead, "behind " + behind] + list(rows))
    return play(text, (0, dict(zip(takes, worths)), heap, draws), *others)


class Pieces(unittest.TestCase):

    def test_how_many(self):
        inner = loop(loop())
        self.assertEqual(pieces(deed()), 1)
        self.assertEqual(pieces(deed(rows=(fork(), ("set", "a", 1)))), 1)
        self.assertEqual(pieces(deed(rows=(loop(),))), 3)
        self.assertEqual(pieces(deed(rows=(loop(), loop()))), 5)
        self.assertEqual(pieces(deed(rows=(inner,))), 5)
        self.assertEqual(pieces(deed(rows=(fork(loop(), others=(loop(loop()),)), loop()))), 9)

    def test_of_the_shelf(self):
        self.assertEqual([pieces(BY_NAME[name]) for name in ("rev", "twice", "nested", "join")], [3, 1, 5, 3])

    def test_by_name(self):
        self.assertEqual(pieces(deed=REVERSE), 3)
        told = (0, {"x": 0}, (), [((), (0, 0, 0))])
        self.assertEqual(played(told=told, name="rev", deeds=[REVERSE]), None)


class Order(unittest.TestCase):
    """Each loop has a test of its own, which tells it from the others."""

    text = """deed d takes x ; tells -
ahead none
behind none
while x is 1
  ahead cell 1 v n
  behind cell 1 v n
  free 7
while x is 2
  ahead cell 2 v n
  behind cell 2 v n
  while x is 3
    ahead cell 3 v n
    behind cell 3 v n
    free 9
while x is 4
  ahead cell 4 v n
  behind cell 4 v n
  free 8"""

    def outcome(self, piece, number, heap):
        worths = {"x": number}
        if piece in (5, 6):
            worths.update({"v": 0, "n": 0})
        return play(self.text, (piece, worths, heap, []))

    def test_loops_in_the_order_of_their_rows(self):
        some = read_deed(self.text)
        self.assertEqual(pieces(some), 9)
        # The ghosts v and n of the loop around are known in the inner loop.
        cells = {1: (1, 5, 5), 3: (3, 0, 0), 4: (4, 5, 5)}
        for number, told in ((1, ("fault", 1)), (3, ("fault", 4)), (4, ("fault", 6))):
            self.assertEqual(self.outcome(2 * number, number, (cells[number],)), told)
            self.assertIsNone(self.outcome(2 * number, number + 1, (cells[number],)))
            self.assertIsNone(self.outcome(2 * number - 1, number, (cells[number],)))
            self.assertIsNone(self.outcome(2 * number, number, ((9, 0, 0),)))
        self.assertIsNone(self.outcome(9, 4, (cells[4],)))

    def test_the_loop_around_has_its_ghosts_known(self):
        told = (6, {"x": 3, "v": 0, "n": 0}, ((3, 0, 0),), [])
        self.assertEqual(play(self.text, told), ("fault", 4))
        self.assertIsNone(play(self.text, (6, {"x": 3}, ((3, 0, 0),), [])))
        self.assertIsNone(play(self.text, (6, {"x": 3, "v": 1, "n": 0}, ((3, 0, 0),), [])))
        self.assertIsNone(play(self.text, (4, {"x": 2, "v": 0, "n": 0}, ((2, 0, 0),), [])))

    def test_an_inner_loop_within_the_piece_of_another_one(self):
        # Piece 4 leaps over the inner loop, which goes by the cell at 3 that isn't there.
        self.assertEqual(play(self.text, (4, {"x": 2}, ((2, 5, 6),), [])), ("lacks", 3))


class Beginning(unittest.TestCase):

    text = """deed d takes x ; tells y
ahead row x 0 r
behind none
while x isn't y
  ahead cell x v y
  behind none
  set z 1"""

    def test_the_deed(self):
        heap = ((3, 8, 5), (5, 9, 0))
        self.assertEqual(play(self.text, (0, {"x": 3}, heap, [])), ("lacks", 0))
        self.assertEqual(play(self.text, (0, {"x": 0}, (), [])), ("lacks", 0))
        for worths in ({}, {"x": 3, "y": 0}, {"x": 3, "r": (8, 9)}, {"x": 5}, {"x": 0}, {"x": True}, {"x": "x"},
                       {"x": None}, {"x": (3,)}, {"y": 3}, {1: 3}, {("x",): 3}):
            self.assertIsNone(play(self.text, (0, worths, heap, [])), worths)
        self.assertIsNone(play(self.text, (0, {"x": 3}, heap + ((6, 0, 0),), [])))
        self.assertIsNone(play(self.text, (0, {"x": 3}, heap[:1], [])))

    def test_worths_of_a_loop(self):
        worths = {"x": 3, "r": (4, 5, 6), "y": 7, "z": 8}
        heap = ((3, 9, 7),)
        self.assertEqual(play(self.text, (1, {**worths, "y": 3}, ((3, 9, 3),), [])), ("end", None))
        self.assertIsNone(play(self.text, (2, worths, heap, [((), (2,))])))
        self.assertEqual(play(self.text + "\n  free z", (2, worths, heap, [])), ("fault", 2))
        for name in worths:
            self.assertIsNone(play(self.text, (1, {other: worths[other] for other in worths if other != name},
                                               heap, [])))
        # The row r and the local z stand in neither claim of the loop.
        heap, worths["y"] = ((3, 9, 3),), 3
        bad = [{**worths, "r": thing} for thing in (7, [4], (True,), ("a",), (None,), ((1,),), "r", None)]
        bad.extend([{**worths, name: thing} for name in "xyz" for thing in ((), (1,), "a", None, False, [1])])
        bad.extend([{**worths, "v": 9}, {**worths, "n": 1}, {**worths, 1: 1}])
        self.assertEqual(play(self.text, (1, worths, heap, [])), ("end", None))
        self.assertEqual(play(self.text, (1, {**worths, "r": (), "z": -1}, heap, [])), ("end", None))
        for some in bad:
            self.assertIsNone(play(self.text, (1, some, heap, [])), some)

    def test_the_test_of_a_loop(self):
        worths = {"x": 3, "r": (), "y": 7, "z": 0}
        self.assertIsNone(play(self.text, (1, worths, ((3, 9, 7),), [])))
        self.assertEqual(play(self.text, (1, {**worths, "y": 3}, ((3, 9, 3),), [])), ("end", None))
        self.assertIsNone(play(self.text, (2, {**worths, "y": 3}, ((3, 9, 3),), [((), (1,))])))
        turned = self.text.replace("isn't", "is")
        self.assertEqual(play(turned, (1, worths, ((3, 9, 7),), [])), ("end", None))
        self.assertIsNone(play(turned, (1, {**worths, "y": 3}, ((3, 9, 3),), [])))

    def test_locals_are_0_at_first_in_the_deed_alone(self):
        rows = ["if a is 0", "  free 5", "else", "  free 6", "set a 1"]
        self.assertEqual(play_rows(rows, []), ("fault", 1))
        text = """deed d takes - ; tells -
ahead none
behind none
while 1 is 1
  ahead none
  behind none
  if a is 0
    free 5
  else
    free 6
  set a 1"""
        self.assertEqual(play(text, (2, {"a": 0}, (), [])), ("fault", 2))
        self.assertEqual(play(text, (2, {"a": 4}, (), [])), ("fault", 3))

    def test_a_claim_that_no_heap_is(self):
        self.assertIsNone(play_rows(["free 5"], [], ahead="same 1 2"))
        self.assertIsNone(play_rows(["free 5"], [], ahead="cell 1 2 3 ; cell 1 2 3", heap=((1, 2, 3),)))


class Leaps(unittest.TestCase):

    def test_whether_or_not_the_test_holds(self):
        for test in ("0 is 1", "0 is 0"):
            rows = [f"while {test}", "  ahead cell x v n", "  behind cell x n v", "  pass", "get a x worth",
                    "if a is 4", "  free 9", "else", "  pass"]
            self.assertEqual(play_rows(rows, [(((3, 4, 2),), ())], takes=["x"], worths=[3], ahead="cell x v n",
                                       heap=((3, 2, 4),)), ("fault", 3))
            self.assertIsNone(play_rows(rows, [(((3, 2, 4),), ())], takes=["x"], worths=[3], ahead="cell x v n",
                                        heap=((3, 2, 4),)))

    def test_nothing_is_known_but_what_the_claim_behind_says(self):
        rows = ["while 0 is 1", "  ahead cell x v n", "  behind cell x w m", "  pass"]
        more = {"takes": ["x"], "worths": [3], "ahead": "cell x v n", "behind": "cell x v n", "heap": ((3, 2, 4),)}
        self.assertEqual(play_rows(rows, [(((3, 7, 7),), ())], **more), ("end", None))
        self.assertIsNone(play_rows(rows, [(((3, 2, 4),), ())], **more))

    def test_the_rest_stays(self):
        rows = ["while 0 is 1", "  ahead cell 1 v n", "  behind none", "  pass"]
        more = {"ahead": "cell 1 a b ; cell 2 c d", "heap": ((1, 0, 0), (2, 7, 8))}
        self.assertIsNone(play_rows(rows, [((), ())], behind="cell 2 c d", **more))
        self.assertEqual(play_rows(rows, [((), ())], behind="cell 2 d c", **more), ("end", None))

    def test_locals_that_become_any_number(self):
        rows = ["set a 1", "set b 2", "set c 3", "while 0 is 1", "  ahead none", "  behind none", "  if 0 is 0",
                "    call c = f -", "  else", "    new b 0 0"]
        other = deed("f", (), ("y",))
        for numbers, told in (((2, 3), None), ((7, 8), None), ((2,), False), ((2, 3, 4), False), ((), False)):
            got = play_rows(rows + ["free a"], [((), numbers)], others=[other])
            self.assertEqual(got, ("fault", 7) if told is None else None)
        # By rising names: b, then c.
        for numbers, told in (((9, 5), ("fault", 8)), ((5, 9), None)):
            more = rows + ["if c is 5", "  free 4", "else", "  pass"]
            self.assertEqual(play_rows(more, [((), numbers)], others=[other]), told)

    def test_ghosts_are_told_anew(self):
        text = """deed d takes x ; tells -
ahead cell x v n
behind none
while 1 is 1
  ahead cell x w m
  behind cell x w m
  put x worth 5"""
        worths = {"x": 3, "v": 0, "n": 0}
        # At the leap w is 5; at the end it is once more what it was at the beginning.
        self.assertEqual(play(text, (2, worths, ((3, 2, 4),), [(((3, 5, 4),), ())])), ("end", None))
        self.assertIsNone(play(text, (2, worths, ((3, 2, 4),), [(((3, 2, 4),), ())])))
        self.assertIsNone(play(text, (2, worths, ((3, 5, 4),), [(((3, 5, 4),), ())])))

    def test_ghosts_of_a_loop_that_comes_twice(self):
        again = ["while 0 is 1", "  ahead cell x w m", "  behind cell x m w", "  pass"]
        more = {"takes": ["x"], "worths": [3], "ahead": "cell x v n", "behind": "cell x v n", "heap": ((3, 2, 4),)}
        draws = [(((3, 4, 2),), ()), (((3, 2, 4),), ())]
        self.assertIsNone(play_rows(again * 2 + ["free 9"], draws[:1] * 2, **more))
        self.assertEqual(play_rows(again * 2 + ["free 9"], draws, **more), ("fault", 2))

    def test_the_ghosts_of_the_deed_are_known_in_a_loop(self):
        rows = ["put x worth 5", "while 0 is 1", "  ahead cell x v n", "  behind none", "  pass"]
        more = {"takes": ["x"], "worths": [3], "ahead": "cell x v n"}
        self.assertEqual(play_rows(rows, [], heap=((3, 2, 4),), **more), ("lacks", 1))
        self.assertEqual(play_rows(rows + ["free 9"], [((), ())], heap=((3, 5, 4),), **more), ("fault", 2))

    def test_a_claim_behind_that_tells_more(self):
        rows = ["while 0 is 1", "  ahead none", "  behind cell 5 v n ; row n 0 r", "  pass", "get a 5 next",
                "get b a worth", "if b is 6", "  free 7", "else", "  pass"]
        self.assertEqual(play_rows(rows, [(((5, 1, 2), (2, 6, 0)), ())]), None)
        self.assertEqual(play_rows(rows, [(((2, 6, 0), (5, 1, 2)), ())]), ("fault", 4))
        self.assertEqual(play_rows(rows, [(((5, 1, 0),), ())]), ("fault", 2))
        self.assertIsNone(play_rows(rows, [(((5, 1, 2),), ())]))
        self.assertIsNone(play_rows(rows, [((), ())]))

    def test_calls(self):
        other = read_deed("deed f takes p q ; tells u w\nahead cell p v q\nbehind cell q u w\nfree 1")
        rows = ["set a 3", "call b c = f a x", "get d x worth", "if d is c", "  free 9", "else", "  free 8"]
        more = {"takes": ["x"], "worths": [6], "ahead": "cell 3 v x", "heap": ((3, 2, 6),), "others": [other]}
        self.assertEqual(play_rows(rows, [(((6, 4, 5),), (4, 5))], **more), ("fault", 5))
        self.assertEqual(play_rows(rows, [(((6, 5, 5),), (5, 5))], **more), ("fault", 4))
        for draw in ((((6, 4, 5),), (5, 4)), (((6, 4, 5),), (4,)), (((5, 4, 5),), (4, 5)), ((), (4, 5)),
                     (((6, 4, 5), (7, 4, 5)), (4, 5))):
            self.assertIsNone(play_rows(rows, [draw], **more), draw)
        self.assertEqual(play_rows(["set a 4"] + rows[1:], [], **more), ("lacks", 1))
        self.assertEqual(play_rows(["set a 3", "call b c = f a a"] + rows[2:], [], **more), ("lacks", 1))

    def test_the_ghosts_of_a_call(self):
        other = read_deed("deed f takes p ; tells -\nahead row p 0 r\nbehind row p 0 ~r\nfree 1")
        more = {"takes": ["x"], "worths": [3], "ahead": "row x 0 r", "behind": "row x 0 ~r",
                "heap": ((3, 1, 5), (5, 2, 0)), "others": [other]}
        self.assertIsNone(play_rows(["call - = f x"], [(((3, 2, 8), (8, 1, 0)), ())], **more))
        self.assertIsNone(play_rows(["call - = f x", "free 9"], [(((3, 1, 5), (5, 2, 0)), ())], **more))
        self.assertEqual(play_rows(["call - = f x", "free 9"], [(((3, 2, 8), (8, 1, 0)), ())], **more), ("fault", 1))

    def test_a_call_of_itself(self):
        some = BY_NAME["freerec"]
        self.assertIsNone(played(DEEDS, "freerec", (0, {"x": 4}, ((2, 0, 0), (4, 0, 2)), [((), ())])))
        rows = some[:5] + ((some[5][0][:4] + (some[5][0][4][:1] + some[5][0][4][2:], ()),),)
        self.assertEqual(played([rows], "freerec", (0, {"x": 4}, ((2, 0, 0), (4, 0, 2)), [((), ())])), ("end", None))

    def test_a_call_whose_deed_is_not_there(self):
        wrong = (deed("f", ("p",), ("y",)), deed("f", (), ()), deed("g"), deed("f", ("p", "q"), ()))
        for others in [()] + [(some,) for some in wrong]:
            self.assertIsNone(play_rows(["call - = f 1", "free 9"], [((), ())], others=others))
        # Where it isn't come to, nothing is asked of it.
        self.assertEqual(play_rows(["free 9", "call - = f 1"], []), ("fault", 0))
        self.assertEqual(play_rows(["if 0 is 1", "  call - = f 1", "else", "  free 9"], []), ("fault", 2))

    def test_the_loop_itself_behind_its_rows(self):
        told = (2, {"x": 0, "r": (), "n": 0, "y": 0, "z": 4}, ((4, 7, 0),), [(((4, 7, 0),), (0, 4, 0))])
        self.assertIsNone(played([REVERSE], "rev", told))
        self.assertIsNone(played([REVERSE], "rev", told[:3] + ([],)))
        self.assertIsNone(played([REVERSE], "rev", told[:3] + (told[3] * 2,)))
        worse = [(((4, 6, 0),), (0, 4, 0))]
        self.assertIsNone(played([REVERSE], "rev", told[:3] + (worse,)))


class Failing(unittest.TestCase):

    def test_faults(self):
        for number in (0, -3, 6, 999999999):
            for text in ("free x", "get a x worth", "get a x next", "put x worth 1", "put x next 1"):
                rows = ["set a 1", text]
                more = {"takes": ["x"], "worths": [number], "ahead": "cell 5 v n", "heap": ((5, 1, 1),)}
                self.assertEqual(play_rows(rows, [], **more), ("fault", 1), text)
                self.assertEqual(play_rows(rows[::-1] + ["free 9"], [], **more), ("fault", 0), text)
                more["worths"] = [5]
                self.assertEqual(play_rows(rows + ["free 5", "free 5"], [], **more)[0], "fault")

    def test_a_fault_within_others(self):
        rows = ["if 0 is 0", "  if 0 is 1", "    free 1", "  else", "    free 2", "else", "  free 3", "free 4"]
        self.assertEqual(play_rows(rows, []), ("fault", 3))
        rows[0] = "if 0 is 1"
        self.assertEqual(play_rows(rows, []), ("fault", 4))

    def test_lacks(self):
        rows = ["set a 7", "while 0 is 0", "  ahead cell a v n", "  behind none", "  set a 0"]
        more = {"ahead": "cell 7 v n"}
        self.assertEqual(play_rows(rows + ["free 1"], [((), (0,))], heap=((7, 0, 0),), **more), ("fault", 3))
        self.assertEqual(play_rows(["free 7"] + rows, [], heap=((7, 0, 0),), **more), ("lacks", 2))
        self.assertEqual(play_rows(rows[:2] + ["  ahead cell a v n ; apart n 0"] + rows[3:], [], heap=((7, 0, 0),),
                                   **more), ("lacks", 1))
        self.assertIsNone(play_rows(["free 7"] + rows, [((), (0,))], heap=((7, 0, 0),), **more))

    def test_lacks_within_the_piece_of_a_loop(self):
        text = """deed d takes - ; tells -
ahead none
behind none
set a 1
while a isn't 0
  ahead cell a v n
  behind none
  set a 3
  set b 1"""
        self.assertEqual(play(text, (2, {"a": 2, "b": 0}, ((2, 0, 0),), [])), ("lacks", 1))
        self.assertIsNone(play(text, (1, {"a": 0, "b": 0}, (), [])))
        self.assertEqual(play(text.replace("set a 3", "set a 2"), (2, {"a": 2, "b": 0}, ((2, 0, 0),), [((), (0, 0))])),
                         None)

    def test_end(self):
        for behind, fails in (("cell x v n", False), ("none", True), ("cell x n v", True), ("row x 0 =v", True),
                              ("row x n =v ; row n 0 -", True), ("cell x v n ; apart v n", False),
                              ("cell x v n ; same v n", True), ("cell x w m", False)):
            told = play_rows(["set a 1"], [], takes=["x"], worths=[3], ahead="cell x v n", behind=behind,
                             heap=((3, 4, 5),))
            self.assertEqual(told, ("end", None) if fails else None, behind)

    def test_end_has_to_be_all(self):
        self.assertEqual(play_rows(["new a 1 2"], [4]), ("end", None))
        self.assertIsNone(play_rows(["new a 1 2", "free a"], [4]))
        self.assertIsNone(play_rows(["new a 1 2"], [4], tells=["a"], behind="cell a 1 2"))

    def test_end_goes_by_the_tells(self):
        more = {"tells": ["a"], "behind": "same a 4"}
        self.assertIsNone(play_rows(["set a 4"], [], **more))
        self.assertEqual(play_rows(["set a 5"], [], **more), ("end", None))
        self.assertEqual(play_rows(["set b 4"], [], **more), ("end", None))

    def test_a_run_that_does_not_fail(self):
        self.assertIsNone(play_rows(["pass"], []))
        self.assertIsNone(played(DEEDS, "room", (0, {}, (), [5])))


class NoLooseRun(unittest.TestCase):

    base = {"takes": ["x"], "worths": [3], "ahead": "cell x v n", "heap": ((3, 4, 5),)}

    def test_draws_left_over_or_too_few(self):
        rows = ["new a 0 0", "free 9"]
        self.assertEqual(play_rows(rows, [7], **self.base), ("fault", 1))
        self.assertIsNone(play_rows(rows, [], **self.base))
        self.assertIsNone(play_rows(rows, [7, 8], **self.base))
        self.assertIsNone(play_rows(["free 9"], [7], **self.base))
        self.assertIsNone(play_rows(["free 9", "new a 0 0"], [7], **self.base))
        self.assertEqual(play_rows(["free 9", "new a 0 0"], [], **self.base), ("fault", 0))

    def test_new_addresses(self):
        rows = ["new a 0 0", "free 9"]
        for address in (3, 0, -1, True, None, "7", (7,), ((), ()), [7]):
            self.assertIsNone(play_rows(rows, [address], **self.base), address)
        self.assertEqual(play_rows(["free x"] + rows, [3], **self.base), ("fault", 2))
        self.assertIsNone(play_rows(["new b 0 0"] + rows, [8, 8], **self.base))

    def test_heaps_that_come_in(self):
        rows = ["while 0 is 1", "  ahead none", "  behind row 7 0 r", "  pass", "free 9"]
        right = (((7, 0, 8), (8, 0, 0)), ())
        self.assertEqual(play_rows(rows, [right], **self.base), ("fault", 1))
        for heap in (((3, 0, 0), (7, 0, 3)), (), ((7, 0, 8),), ((7, 0, 7),), ((6, 0, 0), (7, 0, 0)), ((0, 0, 0),),
                     ((8, 0, 0), (7, 0, 8)), ((7, 0, 0), (7, 0, 0)), [(7, 0, 0)], ([7, 0, 0],), ((7, 0),),
                     ((7, True, 0),), ((7, "a", 0),), None, 7, "heap"):
            self.assertIsNone(play_rows(rows, [(heap, ())], **self.base), heap)
        for numbers in ((1,), [], None, 0, "a", ((),)):
            self.assertIsNone(play_rows(rows, [(right[0], numbers)], **self.base), numbers)
        for draw in (list(right), right + ((),), right[:1], right[0], (), None, 7, True):
            self.assertIsNone(play_rows(rows, [draw], **self.base), draw)

    def test_numbers_that_do_not_fit(self):
        rows = ["while 0 is 1", "  ahead none", "  behind same a 2", "  set a 1", "free 9"]
        self.assertEqual(play_rows(rows, [((), (2,))], **self.base), ("fault", 2))
        for numbers in ((3,), (True,), ("a",), (None,), ((2,),), (2, 2), ()):
            self.assertIsNone(play_rows(rows, [((), numbers)], **self.base), numbers)
        rows[2] = "  behind none"
        for number in (2, 0, -7):
            self.assertEqual(play_rows(rows, [((), (number,))], **self.base), ("fault", 2))
        for numbers in ((True,), ("a",), (None,), ((2,),), ([],), [2], (2, 2), ()):
            self.assertIsNone(play_rows(rows, [((), numbers)], **self.base), numbers)

    def test_anything(self):
        right = (0, {"x": 3}, ((3, 4, 5),), [])
        text = "deed d takes x ; tells -\nahead cell x v n\nbehind none\nfree 9"
        self.assertEqual(play(text, right), ("fault", 0))
        for thing in STRANGE + ({}, {"x": "3"}, {"y": 3}, 1.5):
            for place in range(4):
                told = right[:place] + (thing,) + right[place + 1:]
                if (thing == right[place] and not isinstance(thing, bool)) or (place == 3 and thing == []):
                    continue
                self.assertIsNone(play(text, told), (place, thing))
        for thing in STRANGE:
            self.assertIsNone(play(text, right[:1] + ({"x": thing},) + right[2:]))
            self.assertIsNone(play(text, right[:2] + ((thing,), [])))
            self.assertIsNone(play(text, right[:3] + ([thing],)))

    def test_pieces_that_are_not_there(self):
        text = "deed d takes - ; tells -\nahead none\nbehind none\nfree 9"
        for piece in (-1, 1, 2, 10 ** 12, True, False, None, "0"):
            self.assertIsNone(play(text, (piece, {}, (), [])), piece)

    def test_what_is_handed_in_stays(self):
        told = (0, {"x": 4}, ((2, 0, 0), (4, 0, 2)), [((), ()), 7])
        kept, deeds = copy.deepcopy(told), copy.deepcopy(DEEDS)
        played(DEEDS, "freerec", told)
        self.assertEqual((told, DEEDS), (kept, deeds))


class AgainstAnotherReading(unittest.TestCase):

    def hold(self, deeds, some, seed, times):
        any_of = random.Random(seed)
        for _ in range(times):
            found = some_run(deeds, some, any_of.random())
            if found is not None:
                self.assertEqual(played(deeds, some[0], found[0]), found[1], (some, found))
                self.hold_bent(deeds, some, found[0])

    def hold_bent(self, deeds, some, told):
        """What has a draw more, or a cell more, is none."""
        self.assertIsNone(played(deeds, some[0], told[:3] + (told[3] + [3],)))
        self.assertIsNone(played(deeds, some[0], told[:2] + (told[2] + ((10 ** 8, 0, 0),),) + told[3:]))

    def test_the_shelf(self):
        for some in DEEDS:
            self.hold(DEEDS, some, some[0], 150)

    def test_deeds_that_do_not_keep_their_claims(self):
        for seed in range(150):
            made = Maker(seed).deed("f")
            others = [deed(name, made[1][:many], ("l", "m")[:many]) for many, name in enumerate("gh")]
            ahead = claim(*[cell(take, "v" + take, "n" + take) for take in made[1]])
            some = made[:3] + (ahead, NOTHING) + made[5:]
            self.hold([some] + others, some, seed, 10)

    def test_a_loop_by_hand(self):
        some = deed("d", ("x",), (), claim(stretch("x", 0, row("r"))), NOTHING,
                    (loop(("set", "a", 0), test=("x", "is", 0), ahead=claim(stretch("x", 0, one("a"), row("r")))),))
        self.assertEqual(played([some], "d", (0, {"x": 2}, ((2, 0, 0),), [])), ("lacks", 0))
