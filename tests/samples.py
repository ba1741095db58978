"""Things that several tests use."""

import random

NOTHING = ((), ())

# Things of any kind that are none of the program's.
STRANGE = (
    None, True, False, 0, 1, -1, 10 ** 12, "", "a", "none", "a b", "\n", (), [], ((),), ([],), [()], (None,), (True,),
    ((), (), ()), ("one",), ("one", 1), ["one", 1], (1, 2, 3), [(1, 2, 3)], ("a", ("b", ("c", ("d", ("e",))))),
    ((((((((((((((((None,),),),),),),),),),),),),),),),), [[[[[[[[[[[[[[[[0]]]]]]]]]]]]]]]],
)

WHOLE_NUMBERS = (0, 1, -1, 7, 999999999, -999999999)
NAMES = ("a", "z", "none", "abcdefgh", "row", "one")
NO_NAMES = ("", "abcdefghi", "A", "aB", "a1", "a b", " a", "a_", "-", "~a", "=a", "\n", "a\n")
NO_TERMS = NO_NAMES + (True, False, None, 1000000000, -1000000000, (), ("a",), ["a"], [1])


def cell(x, v, n):
    return ("cell", x, v, n)


def stretch(x, y, *pieces):
    return ("row", x, y, tuple(pieces))


def claim(*items):
    """A claim of these parts and facts."""
    parts = [item for item in items if item[0] in ("cell", "row")]
    return (tuple(parts), tuple([item for item in items if item not in parts]))


def one(term):
    return ("one", term)


def row(name):
    return ("row", name)


def back(name):
    return ("back", name)


def deed(name="d", takes=(), tells=(), ahead=NOTHING, behind=NOTHING, rows=()):
    return (name, takes, tells, ahead, behind, rows)


def loop(*rows, test=(0, "is", 1), ahead=NOTHING, behind=NOTHING):
    return ("while",) + test + (ahead, behind, tuple(rows))


def fork(*rows, others=(), test=(0, "is", 1)):
    return ("if",) + test + (tuple(rows), tuple(others))


def hold(lock, *rows):
    return ("hold", lock, tuple(rows))


def both(outs, name, terms, other_outs=(), other="f", other_terms=()):
    return ("both", outs, name, terms, other_outs, other, other_terms)


REVERSE = deed(
    "rev", ("x",), ("y",), claim(stretch("x", 0, row("r"))), claim(stretch("y", 0, back("r"))),
    (
        ("set", "y", 0), ("set", "z", "x"),
        loop(
            ("get", "n", "z", "next"), ("put", "z", "next", "y"), ("set", "y", "z"), ("set", "z", "n"),
            test=("z", "isn't", 0),
            ahead=claim(stretch("z", 0, row("p")), stretch("y", 0, row("q"))),
            behind=claim(stretch("y", 0, back("p"), row("q"))),
        ),
    ),
)

REVERSE_TEXT = """deed rev takes x ; tells y
ahead row x 0 r
behind row y 0 ~r
set y 0
set z x
while z isn't 0
  ahead row z 0 p ; row y 0 q
  behind row y 0 ~p q
  get n z next
  put z next y
  set y z
  set z n"""

MIXED = deed(
    "mixed", ("a", "b"), ("c",),
    claim(cell("a", "v", 0), ("same", "v", -3)), claim(("apart", "a", 0), ("same", "c", 5)),
    (
        ("new", "e", "a", -1), ("free", 7), ("get", "c", "e", "worth"), ("put", "b", "next", 12),
        fork(("call", (), "other", ()), others=(fork(test=("a", "isn't", "c")),), test=("a", "is", "b")),
        ("call", ("c", "e"), "more", ("a", 4, "c")),
        loop(fork(("set", "f", "f"))),
    ),
)

MIXED_TEXT = """deed mixed takes a b ; tells c
ahead cell a v 0 ; same v -3
behind apart a 0 ; same c 5
new e a -1
free 7
get c e worth
put b next 12
if a is b
  call - = other -
else
  if a isn't c
    pass
  else
    pass
call c e = more a 4 c
while 0 is 1
  ahead none
  behind none
  if 0 is 1
    set f f
  else
    pass"""


# How many each of the works that a maker makes takes and tells.
ARITIES = {"f": (1, 1), "g": (0, 0), "h": (2, 1)}


class Maker:
    """Makes deeds, the same ones each time for the same seed."""

    def __init__(self, seed):
        self.any = random.Random(seed)
        self.takes = tuple(["p", "q"][:self.any.randint(0, 2)])
        self.own = ["l", "m", "n"]
        self.left = 12
        self.forks = 4

    def term(self):
        return self.any.choice([0, 1, 2, 3, -1] + self.own * 2 + list(self.takes) * 2)

    def target(self):
        return self.any.choice(self.own)

    def field(self):
        return self.any.choice(["worth", "next"])

    def test(self):
        return (self.term(), self.any.choice(["is", "isn't"]), self.term())

    def plain(self):
        kind = self.any.choice(["set", "set", "new", "new", "free", "get", "get", "put"])
        return {
            "set": ("set", self.target(), self.term()),
            "new": ("new", self.target(), self.term(), self.term()),
            "free": ("free", self.term()),
            "get": ("get", self.target(), self.term(), self.field()),
            "put": ("put", self.term(), self.field(), self.term()),
        }[kind]

    def call(self):
        outs = self.any.sample(self.own, self.any.randint(0, 2))
        terms = [self.term() for _ in range(self.any.randint(0, 2))]
        return ("call", tuple(outs), self.any.choice(["f", "g", "h"]), tuple(terms))

    def one_row(self, deep):
        draw = self.any.random()
        if draw < 0.12:
            return self.call() if self.left > 6 else self.plain()
        if draw > 0.42 or deep == 3 or not self.forks:
            return self.plain()
        self.forks -= 1
        if draw < 0.3:
            return fork(*self.rows(deep + 1), others=self.rows(deep + 1), test=self.test())
        return loop(*self.rows(deep + 1), test=self.test())

    def rows(self, deep=1):
        made = []
        for _ in range(self.any.randint(0 if deep > 1 else 2, 4)):
            if self.left:
                self.left -= 1
                made.append(self.one_row(deep))
        return tuple(made)

    def deed(self, name):
        tells = tuple(self.any.sample(self.own, self.any.randint(0, 2)))
        made = self.rows() + (("set", "l", 0), ("set", "m", "l"), ("set", "n", "m"))
        return deed(name, self.takes, tells, rows=made)

    def work_rows(self, deep=1):
        """Rows of a work, at most so many within one another as may be."""
        made = []
        for _ in range(self.any.randint(0 if deep > 1 else 2, 4)):
            if self.left:
                self.left -= 1
                made.append(self.work_row(deep))
        return tuple(made)

    def work_row(self, deep):
        draw = self.any.random()
        if deep < 5 and self.forks and draw < 0.2:
            self.forks -= 1
            if draw < 0.12:
                return fork(*self.work_rows(deep + 1), others=self.work_rows(deep + 1), test=self.test())
            return loop(*self.work_rows(deep + 1), test=self.any.choice([(0, "is", 1), self.test()]))
        if deep < 5 and self.holds and draw < 0.35:
            self.holds -= 1
            return hold(self.any.choice(["k", "m", "o"]), *self.work_rows(deep + 1))
        if self.calls and 0.35 < draw < 0.65:
            self.calls -= 1
            return self.call_of(self.left % 3)
        return self.plain()

    def call_of(self, kind):
        """A call, or more often a both, of what is there; seldom of what isn't."""
        sides, free = [], list(self.own)
        for _ in range(2):
            name = self.any.choice("fgh")
            takes, tells = ARITIES[name]
            outs = tuple(self.any.sample(free, tells))
            free = [one for one in free if one not in outs]
            sides.append((outs, name, tuple([self.term() for _ in range(takes + (self.any.random() < 0.01))])))
        return ("call",) + sides[0] if kind == 0 else ("both",) + sides[0] + sides[1]

    def work(self, name):
        """One of the works f, g and h, which call one another; seldom it makes nothing but cells that aren't there."""
        takes, tells = ARITIES[name]
        self.takes, self.holds, self.calls = ("p", "q")[:takes], 3, 6
        made = (("set", "l", 1), ("set", "m", 2), ("set", "n", 3)) + self.work_rows() + (("set", "l", "m"),)
        return deed(name, self.takes, ("l", "m")[:tells], rows=made)

    def heap(self):
        addresses = sorted(self.any.sample(range(1, 6), self.any.randint(0, 4)))
        return tuple([(at, self.any.randint(0, 3), self.any.randint(0, 5)) for at in addresses])
