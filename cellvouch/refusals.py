"""The errors with which works, locks and runs of them are refused."""

from cellvouch.errors import VouchError


class NoWork(VouchError):
    """A name that no work has."""

    def __init__(self, name):
        super().__init__("no work of this name is there")
        self.name = name


class NoLock(VouchError):
    """A name that no lock has."""

    def __init__(self, name):
        super().__init__("no lock of this name is there")
        self.name = name


class NoStart(VouchError):
    """A heap with which no run can begin."""


class NoRun(VouchError):
    """A number that no run has."""

    def __init__(self, asked):
        super().__init__("no run of this number is there")
        self.asked = asked


class NoMark(VouchError):
    """A number that no mark of a run has."""

    def __init__(self, asked):
        super().__init__("no mark of this number is there")
        self.asked = asked


class Over(VouchError):
    """A run that has ended."""

    def __init__(self, asked):
        super().__init__("this run has ended")
        self.asked = asked
