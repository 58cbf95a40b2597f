"""Webs: places of which some are tied, their distances, and the arrays of steady webs."""

from pairdyes.dyeings import dyed, is_number
from pairdyes.errors import NotSteady, NotTied

MOST_FAR = 15


def web_dyeing(web):
    """Returns the dyeing of middle pairs, ties, and all other pairs."""
    n, ties = web
    places = range(n)
    return dyed([[tie_entry(ties, x, y) for y in places] for x in places])


def tie_entry(ties, x, y):
    """Returns 0 for a middle pair, 1 for a tie in either sequence, and 2 for any other pair."""
    if x == y:
        return 0
    return 1 if (min(x, y), max(x, y)) in ties else 2


def distances(web):
    """Returns the table of the least numbers of ties on a way, with -1 where there is none."""
    neighbours = neighbours_of(web)
    return tuple([distance_row(neighbours, x) for x in range(len(neighbours))])


def neighbours_of(web):
    """Returns for each place the list of the places that are tied to it."""
    n, ties = web
    neighbours = [[] for _ in range(n)]
    for x, y in ties:
        neighbours[x].append(y)
        neighbours[y].append(x)
    return neighbours


def distance_row(neighbours, start):
    """Returns the distances of all places from one place."""
    row = [-1] * len(neighbours)
    latest = [start]
    distance = 0
    while latest:
        for place in latest:
            row[place] = distance
        latest = sorted({y for x in latest for y in neighbours[x] if row[y] == -1})
        distance += 1
    return tuple(row)


def distance_dyeing(web):
    """Returns the dyeing of the pairs by their distances."""
    return dyed(distances(web))


def far_web(web, d):
    """Returns the web of the same places whose ties are the pairs at a distance."""
    table = distances(web)
    places = range(len(table))
    return len(table), tuple([(x, y) for x in places for y in places if x < y and table[x][y] == d])


def array_of(web):
    """Returns the numbers b(0), b(1), .. and c(1), c(2), .. of neighbours farther and nearer of a steady web."""
    table = distances(web)
    if len(table) == 0 or any([-1 in row for row in table]):
        raise NotTied("the web does not hang together")
    greatest = max([max(row) for row in table])
    steps = [steps_at(web, table, distance) for distance in range(greatest + 1)]
    return tuple([further for further, _ in steps[:-1]]), tuple([nearer for _, nearer in steps[1:]])


def steps_at(web, table, distance):
    """Returns how many neighbours farther and nearer the second places of all pairs at a distance have."""
    neighbours = neighbours_of(web)
    found = sorted({
        tuple([[row[z] for z in neighbours[y]].count(distance + step) for step in (1, -1)])
        for row in table for y, own in enumerate(row) if own == distance
    })
    if len(found) > 1:
        raise NotSteady(distance)
    return found[0]


def has_form(value):
    """Tells whether any value is a pair of tuples of one length, at most 15, of integers of at least 1."""
    if not isinstance(value, tuple) or len(value) != 2 or not all([isinstance(part, tuple) for part in value]):
        return False
    if len(value[0]) != len(value[1]) or len(value[0]) > MOST_FAR:
        return False
    return all([is_number(entry) and entry >= 1 for part in value for entry in part])


def has_first(array):
    """Tells whether c(1) is 1, if there is one."""
    return array[1][:1] in ((), (1,))


def rises(array):
    """Tells whether no b(i) is greater and no c(i) is less than the one ahead of it."""
    further, nearer = array
    return all([a >= b for a, b in zip(further, further[1:])]) and all([a <= b for a, b in zip(nearer, nearer[1:])])


def rests(array):
    """Returns, from i = 1 on, the numbers b(0) - b(i) - c(i) of neighbours at the same distance."""
    further, nearer = array
    return [further[0] - b - c for b, c in zip(further[1:] + (0,), nearer)]


def keeps_sum(array):
    """Tells whether b(i) and c(i) together are at most b(0)."""
    return all([rest >= 0 for rest in rests(array)])


def keeps_cross(array):
    """Tells whether c(i) is at most b(j) if i + j is at most the greatest distance."""
    further, nearer = array
    d = len(nearer)
    return all([nearer[i - 1] <= further[j] for i in range(1, d + 1) for j in range(d - i + 1)])


def keeps_whole(array):
    """Tells whether the numbers of places at all distances are integers."""
    many = 1
    for b, c in zip(array[0], array[1]):
        if many * b % c != 0:
            return False
        many = many * b // c
    return True


def keeps_even(array):
    """Tells whether the places at each distance have an even number of neighbours there, told at both ends."""
    return all([many * rest % 2 == 0 for many, rest in zip(array_row(array)[1:], rests(array))])


RULES = {
    "form": has_form,
    "first": has_first,
    "rise": rises,
    "sum": keeps_sum,
    "cross": keeps_cross,
    "whole": keeps_whole,
    "even": keeps_even,
}


def array_breach(value):
    """Returns None for any value that breaks no rule of arrays, and otherwise the word of the first one."""
    for word in RULES:
        keeps = RULES[word]
        if not keeps(value):
            return word
    return None


def array_row(array):
    """Returns the numbers of places at each distance from a place."""
    row = [1]
    for b, c in zip(array[0], array[1]):
        row.append(row[-1] * b // c)
    return tuple(row)
