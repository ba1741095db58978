"""Point 2: arguments that are handed in by the names shown, in another order, too."""

import inspect
import itertools
import unittest

from cellvouch.alls import can_be, within
from cellvouch.books import Book
from cellvouch.claims import is_claim, lawful
from cellvouch.deeds import ghosts_of, is_deed, locals_of, rows_of
from cellvouch.desks import Desk
from cellvouch.found import find_claims
from cellvouch.heaps import is_heap, walked
from cellvouch.loose import pieces, played
from cellvouch.machine import run
from cellvouch.texts import read_claim, read_deed, show_claim, show_deed
from cellvouch.verdicts import verdict
from cellvouch.words import is_word, row_of, turned
from tests.samples import NOTHING, REVERSE, REVERSE_TEXT, back, cell, claim, deed, row

ONE = claim(cell("x", "v", "n"))
HEAP = ((3, 4, 5),)
START = (0, {"x": 0}, (), [((), (0, 0, 0))])

# Each function with its arguments by name, those behind the star in a dict of their own, and what is told.
CALLS = (
    (is_word, {"thing": (row("r"),)}, {}, True),
    (turned, {"word": (row("r"),)}, {}, (back("r"),)),
    (row_of, {"word": (back("r"),), "worths": {"r": (1, 2)}}, {}, (2, 1)),
    (is_claim, {"thing": ONE}, {}, True),
    (lawful, {"claim": ONE, "names": ["x"]}, {}, True),
    (is_heap, {"thing": HEAP}, {}, True),
    (walked, {"claim": ONE, "heap": HEAP, "worths": {"x": 3}}, {}, (HEAP, {"x": 3, "v": 4, "n": 5})),
    (is_deed, {"thing": REVERSE}, {}, True),
    (locals_of, {"deed": REVERSE}, {}, ["n", "y", "z"]),
    (ghosts_of, {"deed": REVERSE}, {}, ["r"]),
    (rows_of, {"deed": REVERSE}, {}, 7),
    (show_claim, {"claim": ONE}, {}, "cell x v n"),
    (show_deed, {"deed": REVERSE}, {}, REVERSE_TEXT),
    (read_claim, {"text": "cell x v n"}, {}, ONE),
    (read_deed, {"text": REVERSE_TEXT}, {}, REVERSE),
    (run, {"deeds": [REVERSE], "name": "rev", "numbers": (0,), "heap": ()}, {"places": (), "steps": 9},
     ("ends", (0,), ())),
    (pieces, {"deed": REVERSE}, {}, 3),
    (played, {"deeds": [REVERSE], "name": "rev", "told": START}, {}, None),
    (can_be, {"claim": NOTHING}, {}, ((), {})),
    (within, {"claim": ONE, "other": ONE}, {"whole": True}, None),
    (verdict, {"deeds": [REVERSE], "name": "rev"}, {}, None),
    (find_claims, {"takes": (), "tells": (), "rows": ()}, {}, (NOTHING, NOTHING)),
)

METHODS = ((Book, "keep", ["deed"]), (Book, "drop", ["name"]), (Book, "deed", ["name"]), (Book, "verdict", ["name"]),
           (Book, "names", []), (Book, "looked", []), (Desk, "say", ["text"]))


class ByName(unittest.TestCase):

    def test_functions(self):
        for function, named, behind, told in CALLS:
            self.assertEqual(function(*named.values()), told, function.__name__)
            self.assertEqual(function(**named), told, function.__name__)
            for order in itertools.permutations({**named, **behind}.items()):
                self.assertEqual(function(**dict(order)), told, function.__name__)

    def test_no_other_arguments(self):
        for function, named, behind, _ in CALLS:
            shown = inspect.signature(function).parameters
            self.assertEqual(list(shown), list(named) + list(behind), function.__name__)
            for name in behind:
                self.assertEqual(shown[name].kind, inspect.Parameter.KEYWORD_ONLY)

    def test_methods(self):
        for kind, method, names in METHODS:
            self.assertIn(method, vars(kind))
            self.assertEqual(list(inspect.signature(getattr(kind, method)).parameters), ["self"] + names)
        for method in ("__eq__", "__len__", "__init__"):
            self.assertIn(method, vars(Book))

    def test_the_book_and_the_desk(self):
        book = Book(deeds=[deed("a")])
        book.keep(deed=REVERSE)
        self.assertEqual((book.deed(name="a"), book.verdict(name="rev")), (deed("a"), None))
        book.drop(name="a")
        self.assertEqual(book.names(), ["rev"])
        self.assertEqual(Desk().say(text="names"), "none")
