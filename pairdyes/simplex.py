"""The greatest sum under some bounds, worked out with integers alone."""

from pairdyes.ratios import ratio


class Board:
    """A walk from corner to corner to the greatest sum.

    Wanted are values, none below 0, with which each row of integers times the values is at most 1, and the worths
    times the values are as great as they can be; they must not be able to grow without end. Each row has a rest, by
    which it is below 1. At a corner each row tells one value or rest, and all that no row tells are 0. All entries
    are integers over one scale: those of a row at the values, at the rests, and what it tells at the corner.
    """

    def __init__(self, rows, worths):
        rests = [[int(at == own) for at in range(len(rows))] for own in range(len(rows))]
        self.rows = [list(row) + rest + [1] for row, rest in zip(rows, rests)]
        self.goal = [-worth for worth in worths] + [0] * len(rows) + [0]
        self.scale = 1
        # For each row the column of the value or rest that it tells; at the first corner it is its own rest.
        self.told = [len(worths) + at for at in range(len(rows))]
        self.many = len(worths)

    def walk(self):
        """Goes from corner to corner until none has a greater sum."""
        column = self.entering()
        while column is not None:
            self.pivot(self.leaving(column), column)
            column = self.entering()

    def entering(self):
        """Returns the first column that makes the sum greater, or None."""
        for column, entry in enumerate(self.goal[:-1]):
            if entry < 0:
                return column
        return None

    def leaving(self, column):
        """Returns the row that bounds a column first; of several the one that tells the first value or rest.

        Both choices by the least index keep the walk from going in a circle.
        """
        best = None
        for at, row in enumerate(self.rows):
            if row[column] > 0 and (best is None or self.bounds_ahead(at, best, column)):
                best = at
        return best

    def bounds_ahead(self, at, best, column):
        """Tells whether a row bounds a column ahead of the best one so far."""
        row = self.rows[at]
        other = self.rows[best]
        # Crosswise products compare both ratios of the last entry to that of the column.
        here = row[-1] * other[column]
        there = other[-1] * row[column]
        return here < there or (here == there and self.told[at] < self.told[best])

    def pivot(self, at, column):
        """Makes a row tell the value or rest of a column."""
        lead = self.rows[at]
        self.rows = [row if own == at else self.without(row, lead, column) for own, row in enumerate(self.rows)]
        self.goal = self.without(self.goal, lead, column)
        self.scale = lead[column]
        self.told[at] = column

    def without(self, row, lead, column):
        """Returns a row less so much of the lead that the column is left out, over the scale to come."""
        # Each entry is, but for its sign, a determinant of what stood in the rows at first, so the division is exact.
        return [(lead[column] * own - row[column] * other) // self.scale for own, other in zip(row, lead)]

    def corner(self):
        """Returns the values at the corner."""
        found = [(0, 1)] * self.many
        for row, column in zip(self.rows, self.told):
            if column < self.many:
                found[column] = ratio(row[-1], self.scale)
        return found

    def prices(self):
        """Returns, row by row, how much the greatest sum grows with the bound of the row."""
        return [ratio(entry, self.scale) for entry in self.goal[self.many:-1]]
