"""Dyeings as text."""

from pairdyes.dyeings import MOST_PLACES, dyed
from pairdyes.errors import NotText

DIGITS = "0123456789"
MOST_DIGITS = 3


def written(dyeing):
    """Returns the rows as text, one "/" between two rows and one blank between two dyes."""
    return "/".join([" ".join([str(dye) for dye in row]) for row in dyeing])


def read_dyeing(text):
    """Returns `dyed` of the table that a text tells, and raises NotText where there is none."""
    if text == "":
        return ()
    first, end = read_row(text, 0, MOST_PLACES)
    rows = [first]
    while len(rows) < len(first):
        if not text.startswith("/", end):
            raise NotText(end)
        row, end = read_row(text, end + 1, len(first))
        if len(row) < len(first):
            raise NotText(end)
        rows.append(row)
    if end < len(text):
        raise NotText(end)
    return dyed(rows)


def read_row(text, start, most):
    """Reads at least one and at most `most` entries; returns them and where they end."""
    row = []
    while True:
        end = entry_end(text, start)
        if end == start:
            raise NotText(start)
        row.append(int(text[start:end]))
        if len(row) == most or not text.startswith(" ", end):
            return row, end
        start = end + 1


def entry_end(text, start):
    """Returns where the entry that begins at the start ends, or the start if none begins there."""
    if text.startswith("0", start):
        # A leading zero is not let, so nothing goes on behind a 0.
        return start + 1
    end = start
    while end < len(text) and end - start < MOST_DIGITS and text[end] in DIGITS:
        end += 1
    return end
