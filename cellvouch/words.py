"""Whole numbers, names, terms and words (points 2 and 4 of the document)."""

MOST_LETTERS = 8
MOST_FIGURES = 9
LARGEST = 999999999
MOST_PIECES = 6
OTHER_WAY = {"one": "one", "row": "back", "back": "row"}


def is_whole(thing):
    """Whether thing is a whole number: a truth is none."""
    return isinstance(thing, int) and not isinstance(thing, bool)


def is_name(thing):
    """Whether thing is a text of one to eight letters a to z."""
    if not isinstance(thing, str) or not 1 <= len(thing) <= MOST_LETTERS:
        return False
    return all(["a" <= letter <= "z" for letter in thing])


def is_term(thing):
    """Whether thing is a name or a whole number of at most nine figures."""
    return is_name(thing) or (is_whole(thing) and -LARGEST <= thing <= LARGEST)


def is_piece(thing):
    """Whether thing is a piece of a word."""
    if not isinstance(thing, tuple) or len(thing) != 2:
        return False
    kind, term = thing
    if kind == "one":
        return is_term(term)
    return kind in ("row", "back") and is_name(term)


def is_word(thing):
    """Whether thing, which may be anything, is a word."""
    if not isinstance(thing, tuple) or len(thing) > MOST_PIECES:
        return False
    return all([is_piece(piece) for piece in thing])


def turned(word):
    """The word that stands for the row of this one the other way about."""
    return tuple([(OTHER_WAY[kind], term) for kind, term in word[::-1]])


def number_of(term, worths):
    """The number for which a term stands."""
    return term if is_whole(term) else worths[term]


def piece_row(piece, worths):
    """The row of one piece."""
    kind, term = piece
    if kind == "one":
        return (number_of(term, worths),)
    return worths[term] if kind == "row" else worths[term][::-1]


def row_of(word, worths):
    """The row of numbers for which a word stands by these worths."""
    row = []
    for piece in word:
        row.extend(piece_row(piece, worths))
    return tuple(row)
