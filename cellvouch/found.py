"""Claims found for rows that go straight on (point 19 of the document)."""

from cellvouch.claims import MOST_PARTS, claim_names, lawful
from cellvouch.errors import NoNeed
from cellvouch.rows import FIELDS, names_set
from cellvouch.words import is_whole

LETTERS = "abcdefghijklmnopqrstuvwxyz"


def spelled(number):
    """The name with this number, from 0 on: a to z, then aa and so on."""
    name = ""
    while number >= 0:
        number, letter = divmod(number, len(LETTERS))
        name = LETTERS[letter] + name
        number -= 1
    return name


class Names:
    """Names that aren't used yet."""

    def __init__(self, used):
        self.used = list(used)
        self.tried = 0

    def fresh(self):
        """A name that hasn't been used."""
        name = spelled(self.tried)
        while name in self.used:
            self.tried += 1
            name = spelled(self.tried)
        self.used.append(name)
        return name


class Finding:
    """Rows done on cells that are found as they are touched.

    What a name holds by now is a whole number; or a name, of a take or of what a cell that was found had; or,
    for the address of a cell that was made, a tuple with the number of the row that made it.
    """

    def __init__(self, takes, tells, rows):
        own = list(tells)
        for row in rows:
            own.extend(names_set(row))
        self.holds = {name: 0 for name in own}
        self.holds.update({name: name for name in takes})
        self.naming = Names(list(takes) + own)
        self.ahead = []
        self.cells = {}
        self.freed = {}

    def held_by(self, term):
        """What a term holds."""
        return term if is_whole(term) else self.holds[term]

    def touch(self, here, address):
        """Find a cell where none was touched or made yet; refused where none can be."""
        if address in self.freed or (is_whole(address) and address <= 0):
            raise NoNeed(here)
        if address not in self.cells:
            self.cells[address] = (self.naming.fresh(), self.naming.fresh())
            self.ahead.append(("cell", address) + self.cells[address])

    def do_row(self, row, here):
        """Do a row, the one with this number."""
        if row[0] == "set":
            self.holds[row[1]] = self.held_by(row[2])
        elif row[0] == "new":
            self.cells[(here,)] = (self.held_by(row[2]), self.held_by(row[3]))
            self.holds[row[1]] = (here,)
        elif row[0] == "get":
            address = self.held_by(row[2])
            self.touch(here, address)
            self.holds[row[1]] = self.cells[address][FIELDS.index(row[3])]
        else:
            self.change(row, here)

    def change(self, row, here):
        """Do a put or a free."""
        address = self.held_by(row[1])
        self.touch(here, address)
        if row[0] == "free":
            self.freed[address] = True
            del self.cells[address]
            return
        fields = list(self.cells[address])
        fields[FIELDS.index(row[2])] = self.held_by(row[3])
        self.cells[address] = tuple(fields)

    def named(self, tells):
        """A dict from the addresses of made cells to names: a tell that holds one, else a name of its own."""
        names = {}
        for tell in tells:
            if isinstance(self.holds[tell], tuple):
                names.setdefault(self.holds[tell], tell)
        for address in self.cells:
            for held in (address,) + self.cells[address]:
                if isinstance(held, tuple) and held not in names:
                    names[held] = self.naming.fresh()
        return names

    def claim_behind(self, tells):
        """The claim behind."""
        names = self.named(tells)
        parts, facts = [], []
        for address in self.cells:
            parts.append(("cell",) + tuple([names.get(held, held) for held in (address,) + self.cells[address]]))
        for tell in tells:
            held = names.get(self.holds[tell], self.holds[tell])
            if held != tell:
                facts.append(("same", tell, held))
        return (tuple(parts), tuple(facts))


def find_claims(takes, tells, rows):
    """A claim ahead and a claim behind for these rows; refused with NoNeed."""
    finding = Finding(takes, tells, rows)
    for here, row in enumerate(rows):
        finding.do_row(row, here)
    ahead, behind = (tuple(finding.ahead), ()), finding.claim_behind(tells)
    if max(len(ahead[0]), len(behind[0])) > MOST_PARTS:
        raise NoNeed(None)
    ghosts = [name for name in claim_names(ahead) if name not in takes]
    if not lawful(behind, list(takes) + ghosts + list(tells)):
        raise NoNeed(None)
    return ahead, behind
