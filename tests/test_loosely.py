"""Points 31 and 32: loose runs of works, played."""

import copy
import random
import unittest

from cellvouch.loose import played
from cellvouch.loosely import played_work
from cellvouch.works import read_locks, read_work
from tests.bending import bent_work
from tests.samples import NOTHING, STRANGE, Maker, cell, claim
from tests.second import some_run
from tests.shelf import DEEDS
from tests.workshelf import LOCKS, WORKS

GOOD = ("good",)
LOCK = read_locks("lock k cell 1 v n")


def play(text, told, *others, locks=LOCK):
    some = read_work(text)
    return played_work([some] + [read_work(other) for other in others], locks, some[0], told)


def written(rows, *, takes="-", tells="-", ahead="none", behind="none", name="d"):
    """The text of a work with these rows."""
    return "\n".join([f"deed {name} takes {takes} ; tells {tells}", "ahead " + ahead, "behind " + behind] + list(rows))


def play_rows(rows, draws, *others, worths=None, heap=(), locks=LOCK, **more):
    """What is told of a loose run of piece 0 of a work with these rows."""
    return play(written(rows, **more), (0, worths or {}, heap, draws), *others, locks=locks)


class Told(unittest.TestCase):

    def test_good_fails_none(self):
        self.assertEqual(play_rows(["pass"], []), GOOD)
        self.assertEqual(play_rows(["free 9"], []), ("fault", 0))
        self.assertEqual(play_rows(["new a 0 0"], [3]), ("end", None))
        self.assertEqual(play_rows(["pass"], [3]), None)
        self.assertEqual(play_rows(["call - = e -"], [], written(["pass"], name="e", ahead="cell 4 5 6")), ("lacks", 0))

    def test_the_interface(self):
        some = ("q", (), (), NOTHING, NOTHING, (("hold", "l", (("put", 1, "worth", 5),)),))
        locks = [("l", claim(cell(1, "v", "n")))]
        self.assertEqual(played_work([some], locks, "q", (0, {}, (), [(((1, 3, 0),), ())])), GOOD)
        self.assertEqual(played_work([some], locks, "q", (0, {}, (), [])), None)
        told = (0, {}, (), [(((1, 3, 0),), ())])
        self.assertEqual(played_work(told=told, name="q", locks=locks, works=[some]), GOOD)

    def test_a_deed_plays_as_in_loose(self):
        any_of = random.Random(4)
        counted = {}
        for some in DEEDS:
            for _ in range(60):
                found = some_run(DEEDS, some, any_of.random())
                if found is not None:
                    told = played_work(DEEDS, LOCKS, some[0], found[0])
                    self.assertEqual(told, found[1] or GOOD)
                    self.assertEqual(played(DEEDS, some[0], found[0]), None if told == GOOD else told)
                    more = found[0][:3] + (found[0][3] + [7],)
                    self.assertIsNone(played_work(DEEDS, LOCKS, some[0], more))
                    counted[told[0]] = True
        self.assertIn("good", counted)

    def test_anything(self):
        right = (0, {"x": 3}, ((3, 4, 5),), [(((1, 0, 0),), ())])
        text = written(["hold k", "  free 9"], takes="x", ahead="cell x v n")
        self.assertEqual(play(text, right), ("fault", 1))
        for thing in STRANGE + ({}, {"x": "3"}, {"y": 3}, ((1, 0, 0),), [((1, 0, 0),)]):
            for place in range(4):
                told = right[:place] + (thing,) + right[place + 1:]
                if thing == right[place] and not isinstance(thing, bool):
                    continue
                self.assertIsNone(play(text, told), (place, thing))
            self.assertIsNone(play(text, right[:3] + ([thing],)), thing)
            if thing != ((1, 0, 0),):
                self.assertIsNone(play(text, right[:3] + ([(thing, ())],)), thing)
            if thing != ():
                self.assertIsNone(play(text, right[:3] + ([(((1, 0, 0),), thing)],)), thing)
        for piece in (-1, 1, 2, True, False, None, "0"):
            self.assertIsNone(play(text, (piece,) + right[1:]), piece)

    def test_what_is_handed_in_stays(self):
        told = (0, {}, (), [(((2, 3, 0), (3, 1, 0)), ()), 7])
        kept, works, locks = copy.deepcopy(told), copy.deepcopy(WORKS), copy.deepcopy(LOCKS)
        played_work(WORKS, LOCKS, "pop", told)
        self.assertEqual((told, WORKS, LOCKS), (kept, works, locks))


class Holds(unittest.TestCase):

    def test_one_draw(self):
        draw = (((1, 3, 0),), ())
        self.assertEqual(play_rows(["hold k", "  put 1 worth 5"], [draw]), GOOD)
        self.assertEqual(play_rows(["hold k", "  pass"], [draw]), GOOD)
        for draws in ([], [draw, draw], [draw, ((), ())], [((), ())], [(((2, 3, 0),), ())],
                      [(((1, 3, 0), (2, 0, 0)), ())],
                      [(((1, 3, 0),), (1,))], [((1, 3, 0),)], [1], [(((1, 3, 0),),)], [(((1, 3, 0),), (), ())]):
            self.assertIsNone(play_rows(["hold k", "  pass"], draws), draws)

    def test_lacks_behind_its_rows(self):
        draw = (((1, 3, 0),), ())
        self.assertEqual(play_rows(["set a 1", "hold k", "  free 1"], [draw]), ("lacks", 1))
        self.assertEqual(play_rows(["hold k", "  free 1", "  new a 0 0"], [draw, 2]), ("lacks", 0))
        self.assertEqual(play_rows(["hold k", "  free 1", "  new a 0 0"], [draw, 1]), GOOD)
        self.assertEqual(play_rows(["hold k", "  free 1", "  free 1"], [draw]), ("fault", 2))
        self.assertEqual(play_rows(["hold k", "  free 1", "free 9"], [draw]), ("lacks", 0))
        self.assertEqual(play_rows(["if 0 is 0", "  hold k", "    free 1", "else", "  pass"], [draw]), ("lacks", 1))
        # With a draw too many it is no loose run, however it fails.
        self.assertIsNone(play_rows(["hold k", "  free 1"], [draw, draw]))

    def test_what_goes_out_is_the_part_alone(self):
        rows = ["hold k", "  new a 7 7", "free a"]
        self.assertEqual(play_rows(rows, [(((1, 3, 0),), ()), 4]), GOOD)
        self.assertEqual(play_rows(rows[:2], [(((1, 3, 0),), ()), 4]), ("end", None))
        self.assertEqual(play_rows(["hold k", "  pass", "free 1"], [(((1, 3, 0),), ())]), ("fault", 1))

    def test_addresses_where_no_cell_is(self):
        more = {"ahead": "cell 1 a b", "behind": "cell 1 a b", "heap": ((1, 0, 0),)}
        self.assertIsNone(play_rows(["hold k", "  free 9"], [(((1, 3, 0),), ())], **more))
        self.assertIsNone(play_rows(["hold k", "  free 9"], [], **more))
        self.assertEqual(play_rows(["free 1", "hold k", "  free 9"], [(((1, 3, 0),), ())], **more), ("fault", 2))
        self.assertIsNone(play_rows(["hold k", "  hold k", "    pass"], [(((1, 3, 0),), ())] * 2))
        rows = ["hold k", "  free 1", "  hold k", "    free 9"]
        self.assertEqual(play_rows(rows, [(((1, 3, 0),), ())] * 2), ("fault", 3))

    def test_names_of_the_lock_are_its_own(self):
        locks = read_locks("lock k cell 1 x n ; row n 0 r")
        more = {"takes": "x", "ahead": "cell x v n", "behind": "cell x v n", "locks": locks}
        draw = (((1, 9, 5), (5, 0, 0)), ())
        self.assertEqual(play_rows(["hold k", "  pass"], [draw], worths={"x": 3}, heap=((3, 4, 7),), **more), GOOD)
        self.assertEqual(play_rows(["hold k", "  put 1 next 0", "  free 5"], [draw], worths={"x": 3},
                                   heap=((3, 4, 7),), **more), GOOD)

    def test_a_lock_that_no_heap_is(self):
        for text in ("lock k same 1 2", "lock k cell 1 2 3 ; cell 1 2 3", "lock k cell 0 1 2",
                     "lock k row 0 5 r ; cell 5 1 1"):
            for draws in ([], [((), ())], [(((1, 2, 3),), ())], [(((5, 1, 1),), ())]):
                self.assertIsNone(play_rows(["hold k", "  free 9"], draws, locks=read_locks(text)), text)

    def test_a_lock_that_is_not_in_the_list(self):
        self.assertIsNone(play_rows(["hold z", "  free 9"], []))
        self.assertIsNone(play_rows(["hold z", "  free 9"], [((), ())]))
        self.assertIsNone(play_rows(["hold k", "  free 9"], [((), ())], locks=[]))
        self.assertEqual(play_rows(["free 9", "hold z", "  pass"], []), ("fault", 0))
        self.assertEqual(play_rows(["if 0 is 1", "  hold z", "    pass", "else", "  free 9"], []), ("fault", 2))

    def test_within_one_another(self):
        locks = read_locks("lock k cell 1 v n\nlock m cell 2 h 0 ; row h 0 r")
        rows = ["hold k", "  get a 1 worth", "  hold m", "    put 2 worth a", "  free 7"]
        draws = [(((1, 0, 0),), ()), (((2, 0, 0),), ())]
        self.assertEqual(play_rows(rows, draws, locks=locks), ("fault", 4))
        self.assertIsNone(play_rows(rows, draws[::-1], locks=locks))
        self.assertEqual(play_rows(rows, [(((1, 6, 0),), ()), (((2, 0, 0),), ())], locks=locks), ("lacks", 2))

    def test_rows_behind_a_hold_are_numbered_behind_those_in_it(self):
        rows = ["hold k", "  set a 1", "  set a 2", "free 9"]
        self.assertEqual(play_rows(rows, [(((1, 0, 0),), ())]), ("fault", 3))


class Boths(unittest.TestCase):

    other = written(["pass"], name="f", takes="p", tells="u", ahead="cell p v n", behind="cell u v n")
    more = {"takes": "x y", "tells": "a b", "ahead": "cell x v n ; cell y w m", "behind": "cell a v n ; cell b w m",
            "worths": {"x": 3, "y": 5}, "heap": ((3, 1, 2), (5, 6, 7))}

    def test_two_draws_the_left_one_first(self):
        rows = ["both a = f x ; b = f y"]
        draws = [(((8, 1, 2),), (8,)), (((3, 6, 7),), (3,))]
        self.assertEqual(play_rows(rows, draws, self.other, **self.more), GOOD)
        self.assertEqual(play_rows(["both b = f y ; a = f x"], draws[::-1], self.other, **self.more), GOOD)
        self.assertEqual(play_rows(["both b = f x ; a = f y"], draws, self.other, **self.more), ("end", None))
        for bad in (draws[::-1], draws[:1], draws[1:], [], draws * 2, [draws[0], ((), (3,))], [tuple(draws)],
                    [draws[0], (((3, 6, 7),), ())], [draws[0], (((8, 6, 7),), (8,))], [draws[0], (((3, 6, 8),), (3,))]):
            self.assertIsNone(play_rows(rows, bad, self.other, **self.more), bad)

    def test_all_goes_out_ahead_of_all_that_comes_in(self):
        # The left one comes to lie where the right one was, and the other way about.
        rows = ["both a = f x ; b = f y", "free 9"]
        self.assertEqual(play_rows(rows, [(((5, 1, 2),), (5,)), (((3, 6, 7),), (3,))], self.other, **self.more),
                         ("fault", 1))
        # What the left one leaves is nothing that the right one could find.
        text = written(["pass"], name="g", behind="cell 7 0 0")
        needs = written(["pass"], name="h", ahead="cell 7 v n")
        self.assertEqual(play_rows(["both - = g - ; - = h -"], [], text, needs), ("lacks", 0))
        self.assertIsNone(play_rows(["both - = g - ; - = h -"], [(((7, 0, 0),), ()), ((), ())], text, needs))

    def test_lacks(self):
        for rows in (["both a = f 4 ; b = f y"], ["both a = f x ; b = f 4"], ["both a = f x ; b = f x"],
                     ["both a = f y ; b = f y"]):
            self.assertEqual(play_rows(["set c 1"] + rows, [], self.other, **self.more), ("lacks", 1), rows)
            self.assertIsNone(play_rows(rows, [(((8, 1, 2),), (8,)), (((3, 6, 7),), (3,))], self.other, **self.more))

    def test_parts_that_would_share_a_cell(self):
        tail = written(["pass"], name="t", takes="p", ahead="row p 0 r", behind="row p 0 r")
        more = {"takes": "x y", "ahead": "row x y r ; row y 0 s", "behind": "row x y r ; row y 0 s",
                "worths": {"x": 3, "y": 5}}
        heap = ((3, 1, 5), (5, 2, 0))
        self.assertEqual(play_rows(["both - = t x ; - = t y"], [], tail, heap=heap, **more), ("lacks", 0))
        self.assertEqual(play_rows(["both - = t y ; - = t x"], [], tail, heap=heap, **more), ("lacks", 0))
        self.assertEqual(play_rows(["both - = t x ; - = t 0"], [(heap, ()), ((), ())], tail, heap=heap, **more), GOOD)
        none = {**more, "worths": {"x": 0, "y": 0}}
        self.assertEqual(play_rows(["both - = t x ; - = t y"], [((), ())] * 2, tail, **none), GOOD)

    def test_names_that_both_works_have(self):
        # Both sides have p, v, n and u, each for its own.
        rows = ["both a = f x ; b = f y", "get c a worth", "if c is 1", "  free 9", "else", "  pass"]
        draws = [(((8, 1, 2),), (8,)), (((9, 6, 7),), (9,))]
        self.assertEqual(play_rows(rows, draws, self.other, **self.more), ("end", None))
        turned = written(["pass"], name="g", takes="u", tells="p", ahead="cell u n v", behind="cell p n v")
        self.assertEqual(play_rows(["both a = f x ; b = g y"], draws, self.other, turned, **self.more), GOOD)
        self.assertEqual(play_rows(["both b = g y ; a = f x"], draws[::-1], self.other, turned, **self.more), GOOD)

    def test_terms_are_read_ahead_of_outs(self):
        rows = ["set a 3", "both a = f a ; b = f y"]
        draws = [(((8, 1, 2),), (8,)), (((3, 6, 7),), (3,))]
        self.assertEqual(play_rows(rows, draws, self.other, **self.more), GOOD)
        rows = ["set a 5", "both c = f x ; b = f a", "set a c"]
        self.assertEqual(play_rows(rows, draws, self.other, **self.more), GOOD)
        rows = ["set a 3", "set b 5", "both b = f a ; a = f b"]
        self.assertEqual(play_rows(rows, draws, self.other, **self.more), ("end", None))
        self.assertEqual(play_rows(rows + ["set c a", "set a b", "set b c"], draws, self.other, **self.more), GOOD)

    def test_a_work_that_is_not_there(self):
        for row in ("both a = f x ; b = z y", "both a = z x ; b = f y", "both a = f x ; - = f y",
                    "both a = f - ; b = f y",
                    "both a = f x y ; b = f y"):
            for draws in ([], [(((8, 1, 2),), (8,)), (((3, 6, 7),), (3,))]):
                self.assertIsNone(play_rows([row, "free 9"], draws, self.other, **self.more), row)
                self.assertIsNone(play_rows([row.replace("x", "77"), "free 9"], draws, self.other, **self.more), row)
        self.assertEqual(play_rows(["free 9", "both a = f x ; b = z y"], [], self.other, **self.more), ("fault", 0))
        rows = ["if x is y", "  both - = z - ; - = z -", "else", "  free 9"]
        self.assertEqual(play_rows(rows, [], self.other, **self.more), ("fault", 2))

    def test_a_both_is_two_claims_put_together(self):
        ones = written(["pass"], name="f", takes="p", tells="u", ahead="cell p v n", behind="cell u n v")
        pair = written(["pass"], name="g", takes="p q", tells="u t", ahead="cell p v n ; cell q w m",
                       behind="cell u n v ; cell t m w")
        any_of = random.Random(3)
        counted = {}
        for _ in range(400):
            numbers = tuple([any_of.randint(1, 4) for _ in range(4)])
            told = [(((numbers[2], 2, 1),), numbers[2:3]), (((numbers[3], 7, 6),), numbers[3:])]
            together = [(tuple(sorted(told[0][0] + told[1][0])), numbers[2:])]
            got = []
            for row, draws, other in (("both a = f x ; b = f y", told, ones), ("call a b = g x y", together, pair)):
                got.append(play_rows([row], draws, other, takes="x y", tells="a b", ahead="cell x v n ; cell y w m",
                                     behind="cell a n v ; cell b m w", worths={"x": numbers[0], "y": numbers[1]},
                                     heap=tuple(sorted([(numbers[0], 1, 2), (numbers[1], 6, 7)]))))
            self.assertEqual(got[0], got[1], numbers)
            counted[got[0]] = True
        self.assertEqual(len(counted), 2)


class Loops(unittest.TestCase):

    text = written([
        "while 0 is 0", "  ahead none", "  behind none", "  hold k", "    set c 1", "    hold m", "      get b 1 worth",
        "  both e = f - ; a = f -", "if b is 7", "  free 9", "else", "  pass"])
    other = written(["pass"], name="f", tells="u")
    locks = read_locks("lock k cell 1 v n\nlock m none")

    def test_locals_set_within_holds_and_by_boths(self):
        for numbers, told in (((0, 7, 0, 0), ("fault", 7)), ((7, 0, 7, 7), GOOD), ((0, 0, 0, 0, 0), None),
                              ((0, 0, 0), None)):
            got = play(self.text, (0, {}, (), [((), numbers)]), self.other, locks=self.locks)
            self.assertEqual(got, told, numbers)

    def test_the_piece_of_the_loop(self):
        worths = {"a": 0, "b": 0, "c": 0, "e": 0}
        draws = [(((1, 7, 0),), ()), ((), ()), ((), (4,)), ((), (5,)), ((), (1, 2, 3, 4))]
        self.assertEqual(play(self.text, (2, worths, (), draws), self.other, locks=self.locks), GOOD)
        for bad in (draws[:-1], draws[1:], draws[:2] + draws[3:], draws + draws[-1:]):
            self.assertIsNone(play(self.text, (2, worths, (), bad), self.other, locks=self.locks))
        self.assertIsNone(play(self.text, (1, worths, (), []), self.other, locks=self.locks))
        self.assertIsNone(play(self.text, (3, worths, (), []), self.other, locks=self.locks))

    def test_loops_within_holds_are_pieces(self):
        text = written(["hold k", "  while 0 is 1", "    ahead cell 1 v n", "    behind cell 1 v n", "    pass",
                        "while 1 is 1", "  ahead none", "  behind none", "  free 9"])
        self.assertEqual(play(text, (1, {}, ((1, 2, 3),), [])), GOOD)
        self.assertEqual(play(text, (4, {}, (), [])), ("fault", 3))
        self.assertIsNone(play(text, (2, {}, ((1, 2, 3),), [])))
        self.assertIsNone(play(text, (5, {}, (), [])))
        draws = [(((1, 3, 0),), ()), (((1, 3, 0),), ()), ((), ())]
        self.assertEqual(play(text, (0, {}, (), draws)), GOOD)
        self.assertIsNone(play(text, (0, {}, (), [draws[0], (((1, 4, 0),), ()), draws[2]])))

    def test_lacks_in_the_piece_of_a_loop(self):
        text = written(["while 1 is 1", "  ahead none", "  behind none", "  hold k", "    free 1"])
        self.assertEqual(play(text, (2, {}, (), [(((1, 0, 0),), ())])), ("lacks", 1))
        text = written(["while 1 is 1", "  ahead none", "  behind none", "  both - = f - ; - = f -"])
        needs = written(["pass"], name="f", ahead="cell 4 v n")
        self.assertEqual(play(text, (2, {}, (), []), needs), ("lacks", 1))


class AgainstAnotherReading(unittest.TestCase):

    def test_the_shelf_and_bent_ones(self):
        any_of = random.Random(12)
        counted = {}
        for k in range(3000):
            works, at = list(WORKS), k % len(WORKS)
            for _ in range(k % 3):
                works[at] = bent_work(any_of, works[at])
            locks = any_of.sample(LOCKS, any_of.choice([2, 3, 3, 3]))
            for _ in range(3):
                found = some_run(works, works[at], any_of.random(), locks)
                if found is None:
                    continue
                told = played_work(works, locks, works[at][0], found[0])
                self.assertEqual(told, found[1] or GOOD, found)
                counted[told[0]] = counted.get(told[0], 0) + 1
                number, worths, heap, draws = found[0]
                self.assertIsNone(played_work(works, locks, works[at][0], (number, worths, heap, draws + [3])))
                self.assertIsNone(played_work(works, locks, works[at][0],
                                              (number, worths, heap + ((10 ** 8, 0, 0),), draws)))
        self.assertGreater(min(counted[how] for how in ("good", "fault", "lacks", "end")), 200, counted)

    def test_works_made_by_chance(self):
        any_of = random.Random(13)
        counted = {}
        for seed in range(600):
            works = [Maker(any_of.random()).work(name) for name in "fgh"]
            some = any_of.choice(works)
            ahead = claim(*[cell(take, "v" + take, "n" + take) for take in some[1]])
            some = some[:3] + (ahead, NOTHING) + some[5:]
            works = [some if other[0] == some[0] else other for other in works]
            locks = [("k", claim(cell(1, "v", "n"))), ("m", NOTHING), ("o", claim(cell(2, "h", 0)))]
            for _ in range(5):
                found = some_run(works, some, any_of.random(), locks)
                if found is not None:
                    told = played_work(works, locks, some[0], found[0])
                    self.assertEqual(told, found[1] or GOOD)
                    counted[told[0]] = counted.get(told[0], 0) + 1
        self.assertGreater(min(counted[how] for how in ("fault", "lacks", "end")), 30, counted)
