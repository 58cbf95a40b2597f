"""Rows of steps, the tables that they stand for, and which rows tell two pairs apart."""

from pairdyes.dyeings import dye_count, is_below, is_number
from pairdyes.errors import NotSteps, TooGreat

MOST_STEPS = 1000
GREATEST = 1000000000000
PART_COUNTS = {"dye": 2, "middle": 1, "turned": 2, "times": 3, "then": 3, "just": 3}


def steps_breach(dyeing, value):
    """Returns None for a row of steps, -1 for no row at all, or the index of the first entry that is no step."""
    if not isinstance(value, tuple) or len(value) > MOST_STEPS:
        return -1
    r = dye_count(dyeing)
    for at, entry in enumerate(value):
        if not is_step(entry, at, r):
            return at
    return None


def is_step(value, at, r):
    """Tells whether any value is a step with the index `at` for a dyeing of r dyes."""
    if not isinstance(value, tuple) or len(value) == 0 or not isinstance(value[0], str):
        return False
    word = value[0]
    if PART_COUNTS.get(word, 0) != len(value):
        return False
    if word == "dye":
        return is_below(value[1], r)
    if word == "just":
        return is_below(value[1], at) and is_number(value[2])
    return all([is_below(part, at) for part in value[1:]])


def told_tables(dyeing, steps):
    """Returns the tuple of the tables, one for each step."""
    place = steps_breach(dyeing, steps)
    if place is not None:
        raise NotSteps(place)
    tables = []
    for step in steps:
        table = told_table(dyeing, step, tables)
        # Stopping here, and not behind the last step, keeps all numbers small.
        if any([entry > GREATEST for row in table for entry in row]):
            raise TooGreat(GREATEST)
        tables.append(table)
    return tuple(tables)


def told_table(dyeing, step, tables):
    """Returns the table of a step, the tables of the steps ahead of it being given."""
    word = step[0]
    if word == "dye":
        return just_table(dyeing, step[1])
    if word == "middle":
        return middle_table(len(dyeing))
    if word == "turned":
        return turned_table(tables[step[1]])
    if word == "times":
        return times_table(tables[step[1]], tables[step[2]])
    if word == "then":
        return then_table(tables[step[1]], tables[step[2]])
    return just_table(tables[step[1]], step[2])


def just_table(table, k):
    """Returns the table with 1 where a table has the entry k and 0 elsewhere."""
    return tuple([tuple([int(entry == k) for entry in row]) for row in table])


def middle_table(n):
    """Returns the table with 1 at the middle pairs of n places and 0 elsewhere."""
    return tuple([tuple([int(x == y) for y in range(n)]) for x in range(n)])


def turned_table(table):
    """Returns the table with, at each pair, the entry of the turned pair."""
    return tuple(zip(*table))


def times_table(one, other):
    """Returns the table of the products of the entries of two tables at each pair."""
    return tuple([tuple([a * b for a, b in zip(row, partners)]) for row, partners in zip(one, other)])


def then_table(one, other):
    """Returns the table with, at (x, y), the sum over all z of the entries at (x, z) times those at (z, y)."""
    columns = list(zip(*other))
    return tuple([tuple([sum([a * b for a, b in zip(row, column)]) for column in columns]) for row in one])


def is_telling(dyeing, steps, pair, other):
    """Tells whether a value is a row of steps whose last table has unlike entries at two pairs."""
    try:
        tables = told_tables(dyeing, steps)
    except (NotSteps, TooGreat):
        return False
    if len(tables) == 0:
        return False
    last = tables[-1]
    return last[pair[0]][pair[1]] != last[other[0]][other[1]]
