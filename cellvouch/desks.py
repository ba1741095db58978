"""The desk: a book that is led by rows of text (point 21 of the document)."""

from cellvouch.books import Book
from cellvouch.errors import NoRow
from cellvouch.heaps import is_heap
from cellvouch.machine import run
from cellvouch.texts import read_deed, read_term, show_deed, show_words
from cellvouch.words import is_whole

KEEP = "keep\n"


def read_number(text):
    """The number that a text writes; refused with NoRow."""
    number = read_term(text)
    if not is_whole(number) or str(number) != text:
        raise NoRow()
    return number


def read_cell(text):
    """The numbers that a text writes with : between; refused with NoRow."""
    return tuple([read_number(part) for part in text.split(":")])


def read_none(words):
    """Whether words write none, by the single word -; refused with NoRow where there is no word."""
    if not words:
        raise NoRow()
    return words == ["-"]


def read_numbers(words):
    """The numbers that words write; refused with NoRow."""
    return () if read_none(words) else tuple([read_number(word) for word in words])


def read_heap(words):
    """The heap that words write; refused with NoRow."""
    heap = () if read_none(words) else tuple([read_cell(word) for word in words])
    if not is_heap(heap):
        raise NoRow()
    return heap


def show_heap(heap):
    """The text of a heap."""
    return show_words([":".join([str(number) for number in cell]) for cell in heap])


def show_run(told):
    """The text of what a run tells."""
    if told[0] == "ends":
        return f"ends {show_words(told[1])} | {show_heap(told[2])}"
    return show_words(told)


def words_of(text):
    """The words of a row, one blank between; refused with NoRow."""
    words = text.split(" ")
    if "\n" in text or "" in words:
        raise NoRow()
    return words


class Desk:
    """A book, and what answers the rows that are said to it."""

    def __init__(self):
        self.book = Book()

    def say(self, text):
        """The answer to a row; refused with NoRow, NoText or NoName."""
        if not isinstance(text, str):
            raise NoRow()
        if text.startswith(KEEP):
            return self.keep(text[len(KEEP):])
        words = words_of(text)
        if text == "names":
            return self.told_names(self.book.names())
        if text == "looked":
            return self.told_names(self.book.looked())
        if words[0] == "run":
            return self.say_run(words[1:])
        if len(words) == 2:
            return self.say_of(words[0], words[1])
        raise NoRow()

    def say_of(self, kind, name):
        """The answer to a row of a word and a name."""
        if kind == "drop":
            self.book.drop(name)
            return "ok"
        if kind == "show":
            return show_deed(self.book.deed(name))
        if kind == "verdict":
            return self.told_verdict(name)
        raise NoRow()

    def keep(self, text):
        """Keep the deed that a text writes; told is its name."""
        deed = read_deed(text)
        self.book.keep(deed)
        return deed[0]

    def told_names(self, names):
        """The text of names."""
        return " ".join(names) or "none"

    def told_verdict(self, name):
        """The text of a verdict."""
        told = self.book.verdict(name)
        if told is None:
            return "let by"
        return "loose" if told[0] == "loose" else show_words(told)

    def say_run(self, words):
        """What running a deed tells, as the words behind "run" say."""
        if "|" not in words[1:]:
            raise NoRow()
        name, bar = words[0], words.index("|", 1)
        numbers, heap = read_numbers(words[1:bar]), read_heap(words[bar + 1:])
        if len(numbers) != len(self.book.deed(name)[1]):
            raise NoRow()
        return show_run(run(self.book.all_deeds(), name, numbers, heap))
