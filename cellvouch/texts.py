"""Claims, deeds and works written as texts, and read back (points 10, 11 and 24 of the document)."""

from cellvouch.claims import is_claim
from cellvouch.deeds import WORK_DEEP, is_deed
from cellvouch.errors import NoText
from cellvouch.rows import calls_in
from cellvouch.words import MOST_FIGURES

MARKS = {"one": "=", "row": "", "back": "~"}
STEP = "  "


def show_words(words):
    """Names or terms with a blank between, or - for none."""
    return " ".join([str(word) for word in words]) or "-"


def show_item(item):
    """The text of a part or a fact."""
    if item[0] != "row":
        return show_words(item)
    pieces = [f"{MARKS[kind]}{term}" for kind, term in item[3]]
    return show_words(item[:3]) + " " + show_words(pieces)


def show_claim(claim):
    """The text of a claim."""
    return " ; ".join([show_item(item) for item in claim[0] + claim[1]]) or "none"


def show_test(row):
    """The first line of an if or a loop."""
    return show_words(row[:4])


def show_calls(row):
    """The line of a call or a both."""
    texts = [f"{show_words(outs)} = {name} {show_words(terms)}" for outs, name, terms in calls_in(row)]
    return f"{row[0]} " + " ; ".join(texts)


def further_in(lines):
    """These lines two blanks further in."""
    return [STEP + line for line in lines]


def show_row(row):
    """The lines of a row, and of those in it."""
    if row[0] == "if":
        return [show_test(row)] + further_in(show_rows(row[4])) + ["else"] + further_in(show_rows(row[5]))
    if row[0] == "while":
        return [show_test(row)] + further_in(show_claims(row[4:6]) + show_rows(row[6]))
    if row[0] == "hold":
        return [show_words(row[:2])] + further_in(show_rows(row[2]))
    return [show_calls(row) if calls_in(row) else show_words(row)]


def show_rows(rows):
    """The lines of rows."""
    lines = []
    for row in rows:
        lines.extend(show_row(row))
    return lines or ["pass"]


def show_claims(claims):
    """The two lines of a claim ahead and a claim behind."""
    return ["ahead " + show_claim(claims[0]), "behind " + show_claim(claims[1])]


def show_deed(deed):
    """The text of a deed, or of a work."""
    name, takes, tells = deed[:3]
    head = f"deed {name} takes {show_words(takes)} ; tells {show_words(tells)}"
    return "\n".join([head] + show_claims(deed[3:5]) + show_rows(deed[5]))


# What is read here is only taken apart: a text that is bent gives something
# else than a claim or a deed, or one that is written otherwise. Both are
# found out where it is looked at as a whole.


def read_term(text):
    """The number that a text writes, or else the text itself."""
    figures = text[1:] if text.startswith("-") else text
    if len(figures) <= MOST_FIGURES and figures.isascii() and figures.isdigit():
        return int(text)
    return text


def read_words(words):
    """The terms of several words, none of the single word -."""
    return () if words == ["-"] else tuple([read_term(word) for word in words])


def read_piece(text):
    """The piece that a text writes."""
    if text.startswith("="):
        return ("one", read_term(text[1:]))
    if text.startswith("~"):
        return ("back", text[1:])
    return ("row", text)


def read_item(text):
    """The part or the fact that a text writes."""
    words = text.split(" ")
    if words[0] != "row":
        return (words[0],) + read_words(words[1:])
    pieces = () if words[3:] == ["-"] else tuple([read_piece(word) for word in words[3:]])
    return ("row",) + read_words(words[1:3]) + (pieces,)


def claim_from(text):
    """What a text writes, taken as a claim."""
    if text == "none":
        return ((), ())
    items = [read_item(part) for part in text.split(" ; ")]
    parts = tuple([item for item in items if item[0] in ("cell", "row")])
    return (parts, tuple([item for item in items if item[0] not in ("cell", "row")]))


def read_claim(text):
    """The claim that a text writes; refused with NoText."""
    claim = claim_from(text) if isinstance(text, str) else None
    if not is_claim(claim) or show_claim(claim) != text:
        raise NoText()
    return claim


def call_from(text):
    """The outs, the name and the terms that a text writes."""
    outs, _, done = text.partition(" = ")
    name, _, terms = done.partition(" ")
    return (read_words(outs.split(" ")), name, read_words(terms.split(" ")))


class Lines:
    """The lines of the text of a deed or a work, taken one behind the other."""

    def __init__(self, text):
        self.lines = text.split("\n")
        self.at = 0

    def goes_on(self, deep):
        """Whether the next line stands so deep."""
        if self.at == len(self.lines):
            return False
        line = self.lines[self.at]
        return len(line) - len(line.lstrip(" ")) == len(STEP) * deep

    def next_line(self, deep):
        """The next line, without the blanks ahead of it; an empty one behind the last."""
        if self.at == len(self.lines):
            return ""
        self.at += 1
        return self.lines[self.at - 1][len(STEP) * deep:]

    def next_claims(self, deep):
        """The claims of the two lines "ahead .." and "behind .."."""
        lines = [self.next_line(deep), self.next_line(deep)]
        return tuple([claim_from(line.partition(" ")[2]) for line in lines])

    def next_rows(self, deep):
        """The rows that stand so deep."""
        rows = []
        # No work has rows so far in, and a text may go in without end.
        while deep <= WORK_DEEP and self.goes_on(deep):
            line = self.next_line(deep)
            if line != "pass":
                rows.append(self.row_from(line, deep))
        return tuple(rows)

    def row_from(self, line, deep):
        """The row that begins with this line."""
        kind, _, rest = line.partition(" ")
        if kind == "call":
            return (kind,) + call_from(rest)
        if kind == "both":
            left, _, right = rest.partition(" ; ")
            return (kind,) + call_from(left) + call_from(right)
        if kind == "hold":
            return (kind, rest, self.next_rows(deep + 1))
        row = (kind,) + read_words(rest.split(" "))
        if kind == "if":
            rows = self.next_rows(deep + 1)
            self.next_line(deep)
            others = self.next_rows(deep + 1)
            return row + (rows, others)
        if kind == "while":
            claims = self.next_claims(deep + 1)
            return row + claims + (self.next_rows(deep + 1),)
        return row

    def whole(self):
        """The deed, or the work, that all lines write."""
        head, _, tells = self.next_line(0).partition(" ; ")
        words = head.split(" ")
        name = words[1] if len(words) > 1 else ""
        names = (name, read_words(words[3:]), read_words(tells.split(" ")[1:]))
        claims = self.next_claims(0)
        return names + claims + (self.next_rows(0),)


def read_deed(text):
    """The deed that a text writes; refused with NoText."""
    deed = Lines(text).whole() if isinstance(text, str) else None
    if not is_deed(deed) or show_deed(deed) != text:
        raise NoText()
    return deed
