"""The yard of works and locks, and of runs of them (point 35 of the document)."""

from cellvouch.courses import Course
from cellvouch.deeds import names_called
from cellvouch.judged import locks_of, verdict_of
from cellvouch.loose import own_copy
from cellvouch.refusals import NoLock, NoMark, NoRun, NoWork, Over
from cellvouch.words import is_whole


def is_number_in(thing, many):
    """Whether thing is one of so many numbers from 0 on."""
    return is_whole(thing) and 0 <= thing < many


class Yard:
    """Works by their names, locks by theirs, and runs."""

    def __init__(self, locks=()):
        self.kept = {}
        self.locks = {name: claim for name, claim in locks}
        self.marked = {}
        # Verdicts found since the work was looked at last: it is looked at only where one is asked for.
        self.found = {}
        self.courses = []

    def __eq__(self, other):
        return isinstance(other, Yard) and self.kept == other.kept and self.locks == other.locks

    def __len__(self):
        return len(self.kept)

    def __contains__(self, name):
        return isinstance(name, str) and name in self.kept

    def look(self, name):
        """Note that a work is looked at."""
        self.marked[name] = True
        self.found.pop(name, None)

    def look_at_callers(self, name):
        """Note that the works that call this one are looked at."""
        for caller in sorted(self.kept):
            if name in names_called(self.kept[caller]):
                self.look(caller)

    def look_at_holders(self, lock):
        """Note that the works that hold this lock are looked at."""
        for holder in sorted(self.kept):
            if lock in locks_of(self.kept[holder]):
                self.look(holder)

    def keep(self, work):
        """Keep a work, in the place of one of its name."""
        name = work[0]
        old = self.kept.get(name)
        if old == work:
            return
        self.kept[name] = work
        self.look(name)
        if old is None or old[1:5] != work[1:5]:
            self.look_at_callers(name)

    def drop(self, name):
        """Drop the work of this name; refused with NoWork."""
        if name not in self:
            raise NoWork(name)
        del self.kept[name]
        self.look_at_callers(name)

    def work(self, name):
        """The work of this name; refused with NoWork."""
        if name not in self:
            raise NoWork(name)
        return self.kept[name]

    def judged(self, name):
        """The verdict of the work of this name; refused with NoWork."""
        if name not in self:
            raise NoWork(name)
        if name not in self.found:
            self.found[name] = verdict_of(self.kept, self.locks, self.kept[name])
        return own_copy(self.found[name])

    def put_lock(self, name, claim):
        """Put a lock in, in the place of one of its name."""
        if self.locks.get(name) != claim:
            self.locks[name] = claim
            self.look_at_holders(name)

    def take_lock(self, name):
        """Take the lock of this name out; refused with NoLock."""
        if not isinstance(name, str) or name not in self.locks:
            raise NoLock(name)
        del self.locks[name]
        self.look_at_holders(name)

    def names(self):
        """The names of all works, rising."""
        return sorted(self.kept)

    def lock_names(self):
        """The names of all locks, rising."""
        return sorted(self.locks)

    def looked(self):
        """The names of the works that were looked at since this was asked last, rising."""
        told = sorted([name for name in self.marked if name in self.kept])
        self.marked = {}
        return told

    def begin(self, name, numbers, heap, *, places=()):
        """Begin a run of a work; told is its number. Refused with NoWork or NoStart."""
        if name not in self:
            raise NoWork(name)
        works = [self.kept[other] for other in sorted(self.kept)]
        locks = [(lock, self.locks[lock]) for lock in sorted(self.locks)]
        return self.new_run(Course(works, locks, name, numbers, heap, places))

    def new_run(self, course):
        """Keep a run; told is its number."""
        self.courses.append(course)
        return len(self.courses) - 1

    def course(self, run):
        """The run of this number; refused with NoRun."""
        if not is_number_in(run, len(self.courses)):
            raise NoRun(run)
        return self.courses[run]

    def go(self, run, number):
        """One step of a run; told is where the hand stood that goes. Refused with NoRun or Over."""
        course = self.course(run)
        if course.over is not None:
            raise Over(run)
        return course.go(number)

    def hands(self, run):
        """All hands of a run that stand at a row: path, work, row, and whether it can go on; refused with NoRun."""
        return self.course(run).all_hands()

    def outcome(self, run):
        """The outcome of a run, or None; refused with NoRun."""
        return own_copy(self.course(run).over)

    def path(self, run):
        """The numbers that led a run to where it is; refused with NoRun."""
        return tuple(self.course(run).way)

    def owned(self, run):
        """A dict from all addresses of a run to those who own the cells; refused with NoRun."""
        return self.course(run).weaving.all_owners()

    def blamed(self, run):
        """The blame with which a run ended, or None; refused with NoRun."""
        told = self.outcome(run)
        return told if told is not None and told[0] == "blame" else None

    def mark(self, run):
        """The number of a new mark of a run; refused with NoRun."""
        course = self.course(run)
        course.marks.append(tuple(course.way))
        return len(course.marks) - 1

    def back(self, run, mark):
        """Go back to a mark of a run; refused with NoRun or NoMark."""
        course = self.course(run)
        if not is_number_in(mark, len(course.marks)):
            raise NoMark(mark)
        course.lead(course.marks[mark])

    def fork(self, run):
        """The number of a new run that is where this one is; refused with NoRun."""
        return self.new_run(self.course(run).twin())
