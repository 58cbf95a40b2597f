"""Dyeings: what they are, how a table becomes one, and the pairs of their dyes."""

from pairdyes.errors import NotDyeing, TooMany

MOST_PLACES = 16


def is_number(value):
    """Tells whether any value is an integer; True and False are none."""
    return isinstance(value, int) and not isinstance(value, bool)


def is_below(value, end):
    """Tells whether any value is an integer from 0 on and below the end."""
    return is_number(value) and 0 <= value < end


def is_ascending(value, end):
    """Tells whether any value is an ascending tuple of integers from 0 on and below the end."""
    if not isinstance(value, tuple) or not all([is_below(entry, end) for entry in value]):
        return False
    return all([one < other for one, other in zip(value, value[1:])])


def dyeing_breach(value):
    """Returns None for a dyeing, and otherwise the first broken rule and its place."""
    if not isinstance(value, tuple) or len(value) > MOST_PLACES:
        return ("form", -1)
    for at, row in enumerate(value):
        if not isinstance(row, tuple) or len(row) != len(value):
            return ("row", at)
    place = dye_breach(value)
    return None if place is None else ("dye", place)


def dye_breach(table):
    """Returns the place of the first entry that is not numbered as the dyes are met, or None."""
    met_ahead = 0
    for x, row in enumerate(table):
        for y, dye in enumerate(row):
            if not is_number(dye) or not 0 <= dye <= met_ahead:
                return len(table) * x + y
            if dye == met_ahead:
                met_ahead += 1
    return None


def check_dyeing(value):
    """Returns a dyeing as it is, and raises NotDyeing for any other value."""
    breach = dyeing_breach(value)
    if breach is not None:
        rule, place = breach
        raise NotDyeing(rule, place)
    return value


def dyed(table):
    """Returns the dyeing in which two pairs have one dye exactly if they have equal entries in the table.

    Within the package the entries may also be tuples, and the rows lists.
    """
    if len(table) > MOST_PLACES:
        raise TooMany(MOST_PLACES)
    numbers = {}
    return tuple([tuple([numbers.setdefault(entry, len(numbers)) for entry in row]) for row in table])


def dye_count(dyeing):
    """Returns the number of dyes."""
    return max([max(row) for row in dyeing], default=-1) + 1


def pairs_of(dyeing, dye):
    """Returns the ascending tuple of the pairs of a dye."""
    places = range(len(dyeing))
    return tuple([(x, y) for x in places for y in places if dyeing[x][y] == dye])
