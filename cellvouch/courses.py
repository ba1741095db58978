"""Runs of a yard: guarded weavings that are led step by step (point 35 of the document)."""

from cellvouch.guards import begun_guarded


class Course:
    """A run: how it began, the numbers that led it to where it is, its outcome there, and its marks.

    weaving is the guarded weaving as it stands; where a step was blamed, as it stood ahead of that step. One that
    is led by the same numbers always stands alike, so that these are all that a mark has to keep.
    """

    def __init__(self, works, locks, name, numbers, heap, places):
        self.beginning = (works, locks, name, numbers, heap, places)
        self.marks = []
        self.lead(())

    def anew(self):
        """The guarded weaving with which it began; refused with NoStart."""
        beginning = self.beginning
        return begun_guarded(*beginning)

    def lead(self, numbers):
        """Begin anew, and go by these numbers."""
        self.weaving = self.anew()
        self.over = self.weaving.outcome()
        self.way = []
        for number in numbers:
            self.go(number)

    def go(self, number):
        """One step; told is where the hand stood that goes."""
        stood = self.weaving.go(number)
        self.over = self.weaving.outcome()
        if self.weaving.met is not None and self.weaving.met[0] == "blame":
            self.weaving = self.anew()
            for earlier in list(self.way):
                self.weaving.go(earlier)
        self.way.append(number)
        return stood

    def twin(self):
        """A run that is where this one is, with the same marks."""
        beginning = self.beginning
        other = Course(*beginning)
        other.lead(list(self.way))
        other.marks = list(self.marks)
        return other

    def all_hands(self):
        """Path, work, row, and whether it can go on, of all hands that stand at a row."""
        held, standing = self.weaving.held, self.weaving.standing
        return tuple([(hand.trail,) + hand.place() + (hand.wants not in held,) for hand in standing])
