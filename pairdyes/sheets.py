"""Sheets: what the counts of a closed dyeing tell of its dyes, without its places."""

from pairdyes.closings import check_closed
from pairdyes.dyeings import dye_count, is_ascending, is_below, is_number, pairs_of
from pairdyes.errors import TooMany

MOST_DYES = 16


def sheet_of(dyeing):
    """Returns the sheet of a closed dyeing: its middles, its turned dyes, and its counts."""
    check_closed(dyeing)
    r = dye_count(dyeing)
    if r > MOST_DYES:
        raise TooMany(MOST_DYES)
    middles = sorted({dyeing[x][x] for x in range(len(dyeing))})
    firsts = [pairs_of(dyeing, dye)[0] for dye in range(r)]
    turns = [dyeing[y][x] for x, y in firsts]
    counts = [counts_between(dyeing, r, x, y) for x, y in firsts]
    return tuple(middles), tuple(turns), tuple(counts)


def counts_between(dyeing, r, x, y):
    """Returns the table whose entry J of row I is the number of places between two places by I and J."""
    table = [[0] * r for _ in range(r)]
    for z in range(len(dyeing)):
        table[dyeing[x][z]][dyeing[z][y]] += 1
    return tuple([tuple(row) for row in table])


def first_of(sheet, dye):
    """Returns the first of a dye, or None if there is not just one middle that could be it."""
    middles, _, counts = sheet
    found = [u for u in middles if counts[dye][u][dye] == 1]
    return found[0] if len(found) == 1 else None


def last_of(sheet, dye):
    """Returns the last of a dye, or None if there is not just one middle that could be it."""
    middles, _, counts = sheet
    found = [v for v in middles if counts[dye][dye][v] == 1]
    return found[0] if len(found) == 1 else None


def degree(sheet, dye):
    """Returns the degree of a dye: how many pairs of it begin at one place."""
    _, turns, counts = sheet
    return counts[first_of(sheet, dye)][dye][turns[dye]]


def sizes(sheet):
    """Returns the sizes of the middles: how many places have each of them."""
    middles = sheet[0]
    return sizes_from(sheet, middles[0]) if middles else ()


def sizes_from(sheet, first):
    """Returns for each middle the sum of the degrees of the dyes from the first middle to it."""
    dyes = [dye for dye in range(len(sheet[1])) if first_of(sheet, dye) == first]
    return tuple([sum([degree(sheet, dye) for dye in dyes if last_of(sheet, dye) == v]) for v in sheet[0]])


def is_sheet(value):
    """Tells whether any value has the form of a sheet."""
    if not isinstance(value, tuple) or len(value) != 3:
        return False
    middles, turns, counts = value
    if not isinstance(counts, tuple) or len(counts) > MOST_DYES:
        return False
    r = len(counts)
    if not isinstance(turns, tuple) or len(turns) != r or not all([is_below(turn, r) for turn in turns]):
        return False
    return is_ascending(middles, r) and all([is_count_table(table, r) for table in counts])


def is_count_table(value, r):
    """Tells whether any value is a table of r rows of integers of at least 0."""
    if not isinstance(value, tuple) or len(value) != r:
        return False
    if not all([isinstance(row, tuple) and len(row) == r for row in value]):
        return False
    return all([is_number(entry) and entry >= 0 for row in value for entry in row])


def keeps_turns(sheet):
    """Tells whether each dye is the turned dye of its turned dye, and each middle its own."""
    middles, turns, _ = sheet
    return all([turns[turn] == dye for dye, turn in enumerate(turns)]) and all([turns[u] == u for u in middles])


def keeps_middles(sheet):
    """Tells whether each dye has just one first and one last, and the middles count nothing else."""
    return all([keeps_ends(sheet, dye) for dye in range(len(sheet[1]))])


def keeps_ends(sheet, dye):
    """Tells whether a dye keeps to the rule of the middles."""
    middles, turns, counts = sheet
    first = first_of(sheet, dye)
    last = last_of(sheet, dye)
    if first is None or last is None:
        return False
    if dye in middles and (first != dye or last != dye):
        return False
    for u in middles:
        for k in range(len(turns)):
            if counts[k][u][dye] != int(k == dye and u == first) or counts[k][dye][u] != int(k == dye and u == last):
                return False
    return True


def keeps_degrees(sheet):
    """Tells whether a middle counts just the dyes that begin at it, each with its turned dye."""
    middles, turns, counts = sheet
    for i, turn in enumerate(turns):
        first = first_of(sheet, i)
        for u in middles:
            if any([(entry > 0) != (j == turn and u == first) for j, entry in enumerate(counts[u][i])]):
                return False
    return True


def keeps_sizes(sheet):
    """Tells whether the sizes of the middles are the same from each middle."""
    return len({sizes_from(sheet, u) for u in sheet[0]}) <= 1


def keeps_flips(sheet):
    """Tells whether turning all three dyes of a count leaves it as it is."""
    _, turns, counts = sheet
    dyes = range(len(turns))
    return all([counts[k][i][j] == counts[turns[k]][turns[j]][turns[i]] for k in dyes for i in dyes for j in dyes])


def keeps_shares(sheet):
    """Tells whether the counts agree on the numbers of triangles of three dyes."""
    _, turns, counts = sheet
    dyes = range(len(turns))
    many = pair_counts(sheet)
    return all([
        many[k] * counts[k][i][j] == many[i] * counts[i][k][turns[j]] for k in dyes for i in dyes for j in dyes
    ])


def pair_counts(sheet):
    """Returns for each dye the number of its pairs: the size of its first times its degree."""
    places = {u: size for u, size in zip(sheet[0], sizes(sheet))}
    return [places[first_of(sheet, dye)] * degree(sheet, dye) for dye in range(len(sheet[1]))]


def keeps_sums(sheet):
    """Tells whether the counts with one dye add up to its degree where it begins, and to 0 elsewhere."""
    _, turns, counts = sheet
    dyes = range(len(turns))
    firsts = [first_of(sheet, dye) for dye in dyes]
    degrees = [degree(sheet, dye) for dye in dyes]
    return all([
        sum(counts[k][i]) == (degrees[i] if firsts[k] == firsts[i] else 0) for k in dyes for i in dyes
    ])


def keeps_order(sheet):
    """Tells whether it is one whether the first two or the last two of three dyes are counted through first."""
    dyes = range(len(sheet[1]))
    through = through_table(sheet[2])
    return all([
        sums_through([(m, many, k) for m, many in through[i][j]], through, len(dyes))
        == sums_through([(i, many, m) for m, many in through[j][k]], through, len(dyes))
        for i in dyes for j in dyes for k in dyes
    ])


def through_table(counts):
    """Returns the table with, for the dyes I and J, the list of the dyes K with c(K; I, J) above 0 and this count."""
    dyes = range(len(counts))
    return [[[(k, counts[k][i][j]) for k in dyes if counts[k][i][j] > 0] for j in dyes] for i in dyes]


def sums_through(ways, through, r):
    """Returns for each dye the sum, over some triples (I, many, J), of many times its count by I and J."""
    sums = [0] * r
    for i, many, j in ways:
        for dye, count in through[i][j]:
            sums[dye] += many * count
    return sums


RULES = {
    "form": is_sheet,
    "turn": keeps_turns,
    "middle": keeps_middles,
    "degree": keeps_degrees,
    "size": keeps_sizes,
    "flip": keeps_flips,
    "share": keeps_shares,
    "sum": keeps_sums,
    "order": keeps_order,
}


def sheet_breach(value):
    """Returns None for any value that breaks no rule of sheets, and otherwise the word of the first one."""
    for word in RULES:
        keeps = RULES[word]
        if not keeps(value):
            return word
    return None
