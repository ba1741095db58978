"""The book of deeds (point 20 of the document)."""

from cellvouch.deeds import is_deed, names_called
from cellvouch.errors import NoDeed, NoName
from cellvouch.loose import own_copy
from cellvouch.verdicts import looked_at


class Book:
    """Deeds by their names, and what is known of them."""

    def __init__(self, deeds=()):
        self.kept = {}
        self.marked = {}
        # Verdicts found since the deed was looked at last: it is looked at only where one is asked for.
        self.found = {}
        for deed in deeds:
            self.keep(deed)

    def __eq__(self, other):
        return isinstance(other, Book) and self.kept == other.kept

    def __len__(self):
        return len(self.kept)

    def has(self, name):
        """Whether a deed of this name is there."""
        return isinstance(name, str) and name in self.kept

    def look(self, name):
        """Note that a deed is looked at."""
        self.marked[name] = True
        self.found.pop(name, None)

    def look_at_callers(self, name):
        """Note that the deeds that call this one are looked at."""
        for caller in sorted(self.kept):
            if name in names_called(self.kept[caller]):
                self.look(caller)

    def keep(self, deed):
        """Keep a deed, in the place of one of its name; refused with NoDeed."""
        if not is_deed(deed):
            raise NoDeed()
        name = deed[0]
        old = self.kept.get(name)
        if old == deed:
            return
        self.kept[name] = deed
        self.look(name)
        if old is None or old[1:5] != deed[1:5]:
            self.look_at_callers(name)

    def drop(self, name):
        """Drop the deed of this name; refused with NoName."""
        if not self.has(name):
            raise NoName(name)
        del self.kept[name]
        self.look_at_callers(name)

    def deed(self, name):
        """The deed of this name; refused with NoName."""
        if not self.has(name):
            raise NoName(name)
        return self.kept[name]

    def verdict(self, name):
        """The verdict of the deed of this name; refused with NoName."""
        if not self.has(name):
            raise NoName(name)
        if name not in self.found:
            self.found[name] = looked_at(self.kept, self.kept[name])
        return own_copy(self.found[name])

    def all_deeds(self):
        """A list of all deeds."""
        return [self.kept[name] for name in sorted(self.kept)]

    def names(self):
        """The names of all deeds, rising."""
        return sorted(self.kept)

    def looked(self):
        """The names of the deeds that were looked at since this was asked last, rising."""
        told = sorted([name for name in self.marked if name in self.kept])
        self.marked = {}
        return told
