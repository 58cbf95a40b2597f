"""Rows of steps that tell two pairs apart."""

from pairdyes.closings import closed_breach, closing
from pairdyes.dyeings import dye_count
from pairdyes.errors import TooMany
from pairdyes.steps import told_table

MOST_TOLD = 8


class Parting:
    """A dyeing whose dyes are parted one after another, with steps that show the pairs of each dye.

    Each parting takes at most five steps and there are at most 64 dyes, so there are fewer than 400 steps; and as
    all tables are of 0 and 1 but those of "then", no entry is above 8.
    """

    def __init__(self, dyeing):
        self.dyeing = dyeing
        self.dyes = [list(row) for row in dyeing]
        self.steps = []
        self.tables = []
        # For each dye the index of the step whose table has 1 at its pairs and 0 elsewhere.
        self.shown = []
        for dye in range(dye_count(dyeing)):
            self.shown.append(self.added(("dye", dye)))

    def added(self, step):
        """Adds a step and returns its index."""
        self.tables.append(told_table(self.dyeing, step, self.tables))
        self.steps.append(step)
        return len(self.steps) - 1

    def first_entry(self, table, dye):
        """Returns the entry of a table at the first pair of a dye."""
        rows = list(zip(table, self.dyes))
        return [entry for row, dyes in rows for entry, own in zip(row, dyes) if own == dye][0]

    def part(self):
        """Parts the dye of the first breach, of which there must be one, in two."""
        breach = closed_breach(self.dyes)
        dye = breach[-1]
        if breach[0] == "middle":
            at = self.added(("middle",))
        elif breach[0] == "turned":
            back = self.first_entry(list(zip(*self.dyes)), dye)
            at = self.added(("turned", self.shown[back]))
        else:
            counted = self.added(("then", self.shown[breach[1]], self.shown[breach[2]]))
            at = self.added(("just", counted, self.first_entry(self.tables[counted], dye)))
        self.part_by(dye, at)

    def part_by(self, dye, at):
        """Parts a dye in two: the pairs with 1 in the table of a step, and those with 0, which get a new dye."""
        without = self.added(("just", at, 0))
        kept = self.added(("times", self.shown[dye], at))
        rest = self.added(("times", self.shown[dye], without))
        self.dyes = [
            [len(self.shown) if entry == 1 else own for own, entry in zip(dyes, row)]
            for dyes, row in zip(self.dyes, self.tables[rest])
        ]
        self.shown[dye] = kept
        self.shown.append(rest)


def entry_at(table, pair):
    """Returns the entry of a table at a pair."""
    return table[pair[0]][pair[1]]


def telling_steps(dyeing, pair, other):
    """Returns a row of steps whose last table has unlike entries at two pairs, or None if there is none."""
    if len(dyeing) > MOST_TOLD:
        raise TooMany(MOST_TOLD)
    closed = closing(dyeing)
    if entry_at(closed, pair) == entry_at(closed, other):
        return None
    if entry_at(dyeing, pair) != entry_at(dyeing, other):
        return (("dye", entry_at(dyeing, pair)),)
    parting = Parting(dyeing)
    while entry_at(parting.dyes, pair) == entry_at(parting.dyes, other):
        parting.part()
    # The last step shows the new dye of the last parting, which just one of the two pairs has got.
    return tuple(parting.steps)
