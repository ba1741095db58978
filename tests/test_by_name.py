"""Point 2: arguments that are handed in by the names shown, in another order, too; and that stay as they were."""

import copy
import inspect
import itertools
import unittest

from cellvouch.alls import can_be, within
from cellvouch.books import Book
from cellvouch.claims import is_claim, lawful
from cellvouch.deeds import ghosts_of, is_deed, locals_of, rows_of
from cellvouch.desks import Desk
from cellvouch.errors import NoText
from cellvouch.found import find_claims
from cellvouch.guards import guarded, owners
from cellvouch.heaps import is_heap, walked
from cellvouch.judged import judged
from cellvouch.loose import pieces, played
from cellvouch.loosely import played_work
from cellvouch.machine import run
from cellvouch.orders import may_take, order_or_ring
from cellvouch.texts import read_claim, read_deed, show_claim, show_deed
from cellvouch.verdicts import verdict
from cellvouch.weavings import weave, woven
from cellvouch.words import is_word, row_of, turned
from cellvouch.works import are_locks, is_work, read_locks, read_work, show_locks, show_work
from cellvouch.yards import Yard
from tests.samples import NOTHING, REVERSE, REVERSE_TEXT, STRANGE, back, cell, claim, deed, hold, row

ONE = claim(cell("x", "v", "n"))
HEAP = ((3, 4, 5),)
START = (0, {"x": 0}, (), [((), (0, 0, 0))])
HOLDER = deed("h", rows=(hold("k", ("put", 1, "worth", 5)),))
HOLDER_TEXT = "deed h takes - ; tells -\nahead none\nbehind none\nhold k\n  put 1 worth 5"
LOCKS = [("k", claim(cell(1, "v", "n")))]
BEGUN = {"works": [HOLDER], "locks": LOCKS, "name": "h", "numbers": (), "heap": ((1, 0, 0),)}
BEHIND = {"schedule": (3,), "places": (), "steps": 9}
ENDS = ("ends", (), ((1, 5, 0),))

# Each function with its arguments by name, those behind the star in a dict of their own, and what is told.
CALLS = (
    (is_word, {"thing": (row("r"),)}, {}, True),
    (turned, {"word": (row("r"),)}, {}, (back("r"),)),
    (row_of, {"word": (back("r"),), "worths": {"r": (1, 2)}}, {}, (2, 1)),
    (is_claim, {"thing": ONE}, {}, True),
    (lawful, {"claim": ONE, "names": ["x"]}, {}, True),
    (is_heap, {"thing": HEAP}, {}, True),
    (walked, {"claim": ONE, "heap": HEAP, "worths": {"x": 3}}, {}, (HEAP, {"x": 3, "v": 4, "n": 5})),
    (is_deed, {"thing": REVERSE}, {}, True),
    (locals_of, {"deed": REVERSE}, {}, ["n", "y", "z"]),
    (ghosts_of, {"deed": REVERSE}, {}, ["r"]),
    (rows_of, {"deed": REVERSE}, {}, 7),
    (show_claim, {"claim": ONE}, {}, "cell x v n"),
    (show_deed, {"deed": REVERSE}, {}, REVERSE_TEXT),
    (read_claim, {"text": "cell x v n"}, {}, ONE),
    (read_deed, {"text": REVERSE_TEXT}, {}, REVERSE),
    (run, {"deeds": [REVERSE], "name": "rev", "numbers": (0,), "heap": ()}, {"places": (), "steps": 9},
     ("ends", (0,), ())),
    (pieces, {"deed": REVERSE}, {}, 3),
    (played, {"deeds": [REVERSE], "name": "rev", "told": START}, {}, None),
    (can_be, {"claim": NOTHING}, {}, ((), {})),
    (within, {"claim": ONE, "other": ONE}, {"whole": True}, None),
    (verdict, {"deeds": [REVERSE], "name": "rev"}, {}, None),
    (find_claims, {"takes": (), "tells": (), "rows": ()}, {}, (NOTHING, NOTHING)),
    (is_work, {"thing": HOLDER}, {}, True),
    (are_locks, {"thing": LOCKS}, {}, True),
    (show_work, {"work": HOLDER}, {}, HOLDER_TEXT),
    (show_locks, {"locks": LOCKS}, {}, "lock k cell 1 v n"),
    (read_work, {"text": HOLDER_TEXT}, {}, HOLDER),
    (read_locks, {"text": "lock k cell 1 v n"}, {}, LOCKS),
    (weave, BEGUN, BEHIND, ENDS),
    (woven, BEGUN, BEHIND, (ENDS, (((), "h", 0), ((), "h", 1)), ())),
    (guarded, BEGUN, BEHIND, ENDS),
    (owners, BEGUN, BEHIND, ({1: ("lock", "k")}, {1: ("hand", ())}, {1: ("lock", "k")})),
    (played_work, {"works": [HOLDER], "locks": LOCKS, "name": "h", "told": (0, {}, (), [(((1, 3, 0),), ())])}, {},
     ("good",)),
    (judged, {"works": [HOLDER], "locks": LOCKS, "name": "h"}, {}, None),
    (may_take, {"works": [HOLDER], "locks": LOCKS}, {}, {"h": ("k",)}),
    (order_or_ring, {"works": [HOLDER], "locks": LOCKS}, {}, ("order", ("k",))),
)

METHODS = ((Book, "keep", ["deed"]), (Book, "drop", ["name"]), (Book, "deed", ["name"]), (Book, "verdict", ["name"]),
           (Book, "names", []), (Book, "looked", []), (Desk, "say", ["text"]), (Yard, "keep", ["work"]),
           (Yard, "drop", ["name"]), (Yard, "work", ["name"]), (Yard, "judged", ["name"]), (Yard, "names", []),
           (Yard, "put_lock", ["name", "claim"]), (Yard, "take_lock", ["name"]), (Yard, "lock_names", []),
           (Yard, "looked", []), (Yard, "begin", ["name", "numbers", "heap", "places"]), (Yard, "go", ["run", "number"]),
           (Yard, "hands", ["run"]), (Yard, "outcome", ["run"]), (Yard, "path", ["run"]), (Yard, "owned", ["run"]),
           (Yard, "blamed", ["run"]), (Yard, "mark", ["run"]), (Yard, "back", ["run", "mark"]), (Yard, "fork", ["run"]))


class ByName(unittest.TestCase):

    def test_functions(self):
        for function, named, behind, told in CALLS:
            self.assertEqual(function(*named.values()), told, function.__name__)
            self.assertEqual(function(**named), told, function.__name__)
            for order in itertools.islice(itertools.permutations({**named, **behind}.items()), 0, 50000, 7):
                self.assertEqual(function(**dict(order)), told, function.__name__)

    def test_no_other_arguments(self):
        for function, named, behind, _ in CALLS:
            shown = inspect.signature(function).parameters
            self.assertEqual(list(shown), list(named) + list(behind), function.__name__)
            for name in behind:
                self.assertEqual(shown[name].kind, inspect.Parameter.KEYWORD_ONLY)

    def test_methods(self):
        for kind, method, names in METHODS:
            self.assertIn(method, vars(kind))
            self.assertEqual(list(inspect.signature(getattr(kind, method)).parameters), ["self"] + names)
        for method in ("__eq__", "__len__", "__init__"):
            self.assertIn(method, vars(Book))
            self.assertIn(method, vars(Yard))
        self.assertIn("__contains__", vars(Yard))
        self.assertEqual(inspect.signature(Yard.begin).parameters["places"].kind, inspect.Parameter.KEYWORD_ONLY)

    def test_questions_of_anything_leave_what_is_handed_in(self):
        things = STRANGE + ([HOLDER], [["hold", ["k", []]]], {"x": [1]}, (0, {"x": [3]}, [(1, 2)], [[], [3]]))
        for thing in things:
            kept = copy.deepcopy(thing)
            for asked in (is_word, is_claim, is_heap, is_deed, is_work, are_locks):
                self.assertIs(asked(thing), asked(kept))
            for read in (read_claim, read_deed, read_work, read_locks):
                try:
                    read(thing)
                except NoText:
                    pass
            for told in ((thing,) * 4, (0, thing, thing, thing), (0, {}, (), thing), (0, {}, (), [thing])):
                played_work([HOLDER], LOCKS, "h", told)
                played([REVERSE], "rev", told)
            self.assertEqual(thing in Yard(), False)
            self.assertEqual(thing, kept)

    def test_nothing_handed_in_is_changed(self):
        for function, named, behind, told in CALLS:
            kept = copy.deepcopy((named, behind))
            self.assertEqual(function(**named, **behind), told)
            self.assertEqual((named, behind), kept)

    def test_the_book_and_the_desk(self):
        book = Book(deeds=[deed("a")])
        book.keep(deed=REVERSE)
        self.assertEqual((book.deed(name="a"), book.verdict(name="rev")), (deed("a"), None))
        book.drop(name="a")
        self.assertEqual(book.names(), ["rev"])
        self.assertEqual(Desk().say(text="names"), "none")
