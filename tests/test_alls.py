"""Point 17: claims of all heaps."""

import random
import unittest

from cellvouch.alls import can_be, within
from cellvouch.claims import claim_names, is_claim, lawful, row_names, term_names
from cellvouch.heaps import is_heap, walked
from cellvouch.texts import read_claim, show_claim
from tests.second import Chance, Dead, heap_from, number

CAN = """
none
cell x v n
cell x x x
cell 5 0 0 ; cell 7 0 0
cell x v y ; cell y w x
row x 0 r
row x 0 - ; row y 0 -
row x 0 r ; row y 0 r
row x 0 r ; row x 0 r
row x 0 r ; row x 0 s
row x 0 r ; row y 0 ~r ; same x y
row x y r ; row y 0 s ; same x y
row x y r ; row y 0 s ; apart x y ; apart y 0
row x y r ; cell y v n ; apart x y
row x y r r ; row y z ~r ; cell z v n
row 0 0 r
row x 5 r ; cell 5 x n
row x y p ; row y z p ~p ; row z 0 p q p
row x y r ; row x y s ; cell y v n ; same x y
row x 0 =1 r ; row y 0 ~r =2
same x y ; apart y z
cell x v n ; same x 3
"""

CANNOT = """
apart x x
same x y ; apart x y
same x y ; same y z ; apart z x
same x 3 ; same x 4
same 3 4
apart 3 3
cell 0 v n
cell -1 v n
cell x v n ; same x 0
cell x v n ; cell x w m
cell x v n ; cell y w m ; same x y
cell 5 v n ; cell x w m ; same x 5
row 0 0 =v
row x y =v ; row y 0 r ; same x y
row x 0 - ; apart x 0
row x 0 r ; cell x v n
row x y r ; cell x v n ; cell y w m
row x 0 r ; row x 0 s ; apart x 0
row x 0 r ; row y 0 ~r ; same x y ; apart x 0
row x y r ; row x y s ; cell y v n ; apart x y
row x y r ; row x z s ; cell y v n ; cell z w m
row x 0 r ; row y 0 r ; same x 0 ; apart y 0
row x 0 p q ; row y 0 ~p ; same x 0 ; apart y 0
row x 0 p ; row y 0 q ; row z 0 p q ; apart x 0 ; same z 0
row -4 0 r ; row x 0 r ; apart x 0
row x y p ; row y z q ; cell z v n ; same x z ; apart x y
row x y p ; row x y ~p ; cell y v n ; apart x y
"""

# First the claim, then the other one, with | between.
WITHIN = """
none | none
cell x v n | cell x v n
cell x v n | cell x w m
cell x v n | none
cell x v 0 | row x 0 =v
cell x v 0 | row x 0 r
cell x v n ; row n 0 r | row x 0 =v r
row x y p ; row y 0 q | row x 0 p q
row x y p ; row y 0 q | row x 0 r
row x y p ; row y 0 q | row y 0 q ; row x y ~s
row x y p ; cell y v 0 | row x 0 p =v
row x 0 - | none
row x 0 - | same x 0
row x 0 r ; same x 0 | none
row x 0 r ; row y 0 ~r ; same x 0 | same y 0
cell x v n ; cell y w m | apart x y
cell x v n | apart x 0
cell x v n | apart x -5
row x y p ; row y z q ; cell z v 0 | row x 0 p q =v
row x y p ; row y z q ; cell z v 0 ; same x z | cell x v 0
row x y p ; row y z q ; cell z v 0 ; same x z | same x y
row x 0 p q ; row y 0 p | row y 0 p ; row x 0 p q
row x 0 p ~p ; row y 0 p | row x 0 p ~p
row x 0 ~r | row x 0 ~r
row x 0 r | row x 0 ~s
row x 0 p q p ~q =v | row x 0 p q p ~q =v
same x 3 | same 3 x
same x y ; apart y z | apart z x
row x y r ; cell y v n ; apart x y | apart y 0
row x 0 r ; cell x v n | same 1 2
apart x x | cell 1 2 3
row x 0 r ; row x 0 s ; apart x 0 | cell 1 2 3
row x y p ; row x y q ; cell y v n | cell x v n ; same x y
row x 0 =v ; same v w | row x 0 =w
row x 0 r =v ~r ; same w v | row x 0 r =w ~r
row x y p ; row x 0 r ; row y x q | row y x k ; row x y m ; row y 0 s
row x y p ; row x 0 r ; row y x q | row y 0 ~s ; same x y
row x 0 r ; row x y p ; row y x q | row x 0 r q ~p ; same y x
row x 0 r ; row x y p ; row y x q ; cell z x 0 | row z 0 =y
row x 0 r ; row x y p ; row y x q ; row z 0 p r q | row z 0 r
row x y p ; cell y v 0 | row x 0 p =v
row x y p ; row y z q ; cell z v n ; row n 0 r | row x n p q =v ; row n 0 r
row x y p ; row y z q ; cell z v x | cell z v x ; row x y p ; row y z q
row x 0 r ; row x 0 s | row x 0 r
"""

NOT_WITHIN = """
none | cell 1 v n
cell x v n | cell x n v
cell x v n | cell x v n ; apart v n
cell x v n | row x 0 r
cell x v n ; row n 0 r | row x 0 r =v
row x y p ; row y 0 q | row x 0 q p
row x y p ; row y 0 q | row x 0 p ; row y 0 q
row x y p ; row y 0 q | row x 0 p ~q
row x y p ; row y 0 q | apart x y
row x y p ; row y 0 q | same x y
row x 0 r | row x 0 ~r
row x 0 p ; row y 0 q | row x 0 q ; row y 0 p
row x 0 p ~p | row x 0 ~p p
row x 0 r | cell x v n
row x 0 r ; apart x 0 | row x 0 =5
row x 0 =v =w | row x 0 =w =v
row x 0 p p | row x 0 p
row x 0 - | apart x 0
row x 0 r | same x 0
row x 0 r ; row y 0 s | apart x y
cell x v n | same v n
cell x v n | same v 3
cell x v y | cell y v n
cell x v n | cell x v n ; cell x v n
row x y p ; row y 0 q | cell x v n
row x 0 p q ; row y 0 p q | row x 0 q p
row x 0 =v r | row x 0 r =v
row x 0 r ; row x y p ; row y x q | row x 0 ~r
row x 0 r ; row x y p ; row y x q | same x 0
row x y p ; row x 0 r ; row y x q | row y x k ; row x y m ; row y 0 s ; same x 0
row x y p ; row x 0 r ; row y x q | row y x k ; row x y m ; row y 0 s ; apart x 0
row x 0 r ; row x y p ; row y x q ; row z 0 s | row x 0 r ; row z 0 r
row x y a ; row y 0 b ; row x z c ; row z x d ; cell w x 0 | row w 0 =y
row x y a ; row y 0 b ; row x z c ; row z x d | same x y
row x y a ; row y 0 b ; row x z c ; row z x d | row x 0 b
row x 0 r =v ~r ; apart w v | row x 0 r =w ~r
row x 0 p =v ; row y 0 q =w | row x 0 p =v ; row y 0 q =v
row x 0 p q ; row y 0 p | row x 0 p ; row y 0 p
row x 0 p ; row y 0 p q | row x 0 p q ; row y 0 p q
"""


def claims_from(text):
    """The claims that lines write."""
    return [tuple([read_claim(part) for part in line.split(" | ")]) for line in text.strip().split("\n")]


def holds(other, heap, worths, whole):
    told = walked(other, heap, worths)
    return told is not None and (not whole or told[0] == heap)


class ClaimTest(unittest.TestCase):

    def check_heap(self, some, told):
        """What is told is a heap that is the claim, by worths of just its names."""
        heap, worths = told
        self.assertTrue(is_heap(heap))
        self.assertEqual(sorted(worths), claim_names(some))
        self.assertEqual(walked(some, heap, worths), (heap, worths))
        for name in worths:
            self.assertEqual(isinstance(worths[name], tuple), name in row_names(some))

    def check_within(self, some, other, whole):
        """Told is None, or a heap that is the first and not the other; told is whether it was None."""
        told = within(some, other, whole=whole)
        if told is None:
            return True
        self.check_heap(some, told)
        self.assertFalse(holds(other, told[0], told[1], whole), (show_claim(some), show_claim(other), told))
        return False


class CanBe(ClaimTest):

    def test_claims_that_can_be(self):
        for (some,) in claims_from(CAN):
            told = can_be(some)
            self.assertIsNotNone(told, show_claim(some))
            self.check_heap(some, told)

    def test_claims_that_can_not_be(self):
        for (some,) in claims_from(CANNOT):
            self.assertTrue(lawful(some, claim_names(some)), some)
            self.assertIsNone(can_be(some), show_claim(some))

    def test_nothing(self):
        self.assertEqual(can_be(((), ())), ((), {}))

    def test_rows_need_not_be_empty(self):
        heap, worths = can_be(read_claim("row x 0 r ; apart x 0"))
        self.assertEqual(len(heap), len(worths["r"]))
        self.assertGreater(len(heap), 0)

    def test_told_anew(self):
        some = read_claim("cell x v n")
        can_be(some)[1]["x"] = None
        self.check_heap(some, can_be(claim=some))


class Within(ClaimTest):

    def test_within(self):
        for some, other in claims_from(WITHIN):
            self.assertTrue(self.check_within(some, other, False), (show_claim(some), show_claim(other)))

    def test_not_within(self):
        for some, other in claims_from(NOT_WITHIN):
            for whole in (False, True):
                self.assertFalse(self.check_within(some, other, whole), (show_claim(some), show_claim(other)))

    def test_a_part_more_or_less(self):
        more, less = read_claim("cell x v n ; row n 0 r"), read_claim("cell x v n")
        self.assertTrue(self.check_within(more, less, False))
        self.assertFalse(self.check_within(more, less, True))
        self.assertFalse(self.check_within(less, more, False))
        self.assertTrue(self.check_within(more, more, True))
        self.assertTrue(self.check_within(more, ((), ()), False))
        self.assertFalse(self.check_within(more, ((), ()), True))
        self.assertTrue(self.check_within(read_claim("row x 0 - ; row 0 0 r"), ((), ()), True))

    def test_whole(self):
        pairs = """row x y p ; row y 0 q | row y 0 q
row x y p ; row y 0 q | row x 0 p q
row x 0 r ; row y 0 s | row y 0 s
row x 0 r ; row y 0 s ; same x 0 | row y 0 s
row x 0 r ; row y 0 ~r r ; same x 0 | none
row x 0 r ; row y 0 ~r r ; same y 0 | same x 0"""
        for (some, other), wholly in zip(claims_from(pairs), (False, True, False, True, True, True)):
            self.assertTrue(self.check_within(some, other, False), show_claim(other))
            self.assertEqual(self.check_within(some, other, True), wholly, show_claim(other))

    def test_stretches_joined_and_parted(self):
        parted, joined = read_claim("row x y p ; row y z q ; row z 0 r"), read_claim("row x 0 p q r")
        self.assertTrue(self.check_within(parted, joined, True))
        self.assertFalse(self.check_within(read_claim("row x 0 p q r ; same y z"), parted, False))
        first = read_claim("row x 0 =a =b")
        self.assertTrue(self.check_within(first, read_claim("cell x a n ; cell n b 0"), True))
        self.assertTrue(self.check_within(first, read_claim("cell x a n ; row n 0 =b"), True))
        self.assertFalse(self.check_within(first, read_claim("cell x b n ; row n 0 =a"), True))

    def test_rows_of_odd_and_even_length(self):
        for many in range(5):
            word = " ".join(["=" + letter for letter in "abcd"[:many]]) or "-"
            back = " ".join(["=" + letter for letter in "abcd"[:many][::-1]]) or "-"
            some = read_claim(f"row x 0 {word}")
            self.assertTrue(self.check_within(some, read_claim(f"row x 0 {word}"), True))
            self.assertEqual(self.check_within(some, read_claim(f"row x 0 {back}"), True), many < 2)
            same = read_claim("row x 0 " + " ".join(["=a"] * many or ["-"]))
            self.assertTrue(self.check_within(same, same, True))
        palindrome = read_claim("row x 0 r =v ~r")
        self.assertTrue(self.check_within(palindrome, read_claim("row x 0 r =v ~r"), True))
        self.assertFalse(self.check_within(palindrome, read_claim("row x 0 ~r =v r"), True))

    def test_facts_that_follow(self):
        some = read_claim("cell x v n ; cell y w m ; same v w ; apart n m")
        for fact, follows in (("apart x y", True), ("same w v", True), ("apart m n", True), ("apart x 0", True),
                              ("same n m", False), ("apart v n", False), ("same v 0", False), ("apart v 0", False),
                              ("same x x", True), ("apart 1 2", True), ("same 1 2", False), ("apart 1 1", False)):
            self.assertEqual(self.check_within(some, read_claim(fact), False), follows, fact)

    def test_what_the_other_one_tells(self):
        some = read_claim("cell x v n ; row n 0 r")
        self.assertTrue(self.check_within(some, read_claim("cell x a b ; row b 0 s ; same a v"), True))
        self.assertTrue(self.check_within(some, read_claim("row x 0 s"), True))
        self.assertFalse(self.check_within(some, read_claim("cell x a b ; row b 0 s ; same a b"), True))

    def test_by_name(self):
        some, other = read_claim("cell x v n"), ((), ())
        self.assertIsNone(within(other=other, claim=some))
        self.assertIsNotNone(within(whole=True, other=other, claim=some))
        with self.assertRaises(TypeError):
            within(some, other, True)


class Claims:
    """Claims by chance."""

    def __init__(self, seed):
        self.any = random.Random(seed)

    def term(self):
        return self.any.choice(["a", "b", "x", "y", "z"] * 2 + [0, 0, 1, 2])

    def word(self):
        return tuple([("one", self.term()) if self.any.random() < 0.25
                      else (self.any.choice(["row", "row", "back"]), self.any.choice("pqr"))
                      for _ in range(self.any.choice([0, 1, 1, 1, 2, 2, 3, 6]))])

    def facts(self):
        return tuple([(self.any.choice(["same", "apart", "apart"]), self.term(), self.term())
                      for _ in range(self.any.choice([0, 0, 0, 1, 1, 2, 4]))])

    def claim(self):
        """Parts that lead on, one to the next."""
        ends = [self.term() for _ in range(self.any.randint(1, 4))] + [self.any.choice([0, 0, "z"])]
        parts = []
        if self.any.random() < 0.15:
            parts = [("row", "x", "y", self.word()), ("row", "y", "x", self.word())]
            ends[0] = self.any.choice("xy")
        for x, y in zip(ends, ends[1:]):
            parts.append(("cell", x, self.term(), y) if self.any.random() < 0.3 else ("row", x, y, self.word()))
        if ends[-1] == "z":
            parts.append(("cell", "z", self.term(), self.term()))
        if self.any.random() < 0.4:
            parts.append(("row", self.term(), self.any.choice(ends), self.word()))
        self.any.shuffle(parts)
        return (tuple(parts[:5]), self.facts())

    def joined(self, parts):
        """The parts, two of them as one stretch where one leads to the other."""
        pairs = [(k, m) for k, part in enumerate(parts) for m, other in enumerate(parts)
                 if k != m and part[3 if part[0] == "cell" else 2] == other[1]]
        if not pairs:
            return parts
        k, m = self.any.choice(pairs)
        words = [(("one", part[2]),) if part[0] == "cell" else part[3] for part in (parts[k], parts[m])]
        end = parts[m][3 if parts[m][0] == "cell" else 2]
        rest = [part for at, part in enumerate(parts) if at not in (k, m)]
        return rest + [("row", parts[k][1], end, words[0] + words[1])]

    def bent(self, part):
        """A part with another term, or another word."""
        fields = list(part)
        at = self.any.randint(1, 3)
        fields[at] = self.word() if part[0] == "row" and at == 3 else self.any.choice(["a", "x", "y", "k", 0])
        return tuple(fields)

    def other(self, some):
        """A claim like this one."""
        parts, facts = list(some[0]), list(some[1])
        for _ in range(self.any.choice([0, 1, 1, 2, 3])):
            draw = self.any.random()
            if draw < 0.4:
                parts = self.joined(parts)
            elif draw < 0.5:
                facts = list(self.facts())
            elif draw < 0.65 and parts:
                parts.pop(self.any.randrange(len(parts)))
            elif parts:
                at = self.any.randrange(len(parts))
                parts[at] = self.bent(parts[at])
        return (tuple(parts[:5]), tuple(facts[:4]))

    def heap(self, some):
        """A heap that is the claim, and worths of all its names; None where chance finds none."""
        chance = Chance(self.any.random(), self.any.choice([(0, 1, 2, 3), (0, 1, 2, 3, 4, 5, 6), (-1, 0, 1, 2, 7, 8)]))
        worths = {name: chance.number() for name in term_names(some)}
        worths.update({name: chance.row() if self.any.random() < 0.6 else () for name in row_names(some)})
        for kind, x, y, *word in some[0]:
            empty = kind == "row" and not [name for piece, name in word[0] if piece == "one" or worths[name]]
            if empty and isinstance(x, str):
                worths[x] = number(y, worths)
        for kind, one, other in some[1]:
            if kind == "same" and isinstance(one, str):
                worths[one] = number(other, worths)
        try:
            return heap_from(chance.lay(some, dict(worths))), worths
        except Dead:
            return None


class AgainstAnotherReading(ClaimTest):

    def test_many_claims(self):
        counted = {}
        for seed in range(1500):
            made = Claims(seed)
            some = made.claim()
            if not is_claim(some) or not lawful(some, claim_names(some)):
                continue
            found = [told for told in [made.heap(some) for _ in range(30)] if told is not None]
            told = can_be(some)
            if told is None:
                self.assertEqual(found, [], show_claim(some))
            else:
                self.check_heap(some, told)
            counted["can", told is None] = counted.get(("can", told is None), 0) + 1
            self.check_others(made, some, found, counted)
        self.assertEqual(len(counted), 6, counted)
        self.assertGreater(min(counted.values()), 80, counted)

    def check_others(self, made, some, found, counted):
        for _ in range(3):
            other = made.other(some)
            names, others = (term_names(some), row_names(some)), (term_names(other), row_names(other))
            if not is_claim(other) or not lawful(other, claim_names(some)):
                continue
            if [name for name in names[0] if name in others[1]] or [name for name in names[1] if name in others[0]]:
                continue
            for whole in (False, True):
                told = self.check_within(some, other, whole)
                if told:
                    for heap, worths in found:
                        self.assertTrue(holds(other, heap, worths, whole), (show_claim(some), show_claim(other)))
                counted[whole, told] = counted.get((whole, told), 0) + 1
