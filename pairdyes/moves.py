"""Moves: the listings that take each pair to a pair of its dye."""

from pairdyes.closings import closing
from pairdyes.errors import TooMany
from pairdyes.numberings import is_listing
from pairdyes.orders import leaders_by, links_of

MOST_MOVES = 1000


class MoveSearch:
    """A search for the moves of a dyeing.

    Told to which targets a move shall take some sources, it parts all places by what they see of the others, and
    where this leaves a choice, it tries sources for one more target. Where a source fails, all places to which it is
    taken by moves that leave the sources ahead of it fail, too; so where one part of the places is to blame, the
    moves of the other parts are not tried again and again.
    """

    def __init__(self, dyeing):
        # A dyeing and its closing have the same moves, and the closing tells more pairs apart.
        self.dyes = closing(dyeing)
        self.known = {}

    def sights(self, numbers):
        """Returns for each place what it sees: the dyes of its pairs with the numbers of their second places.

        The middle pair, whose dye no other pair of the place has, tells the number of the place itself.
        """
        n = len(numbers)
        return [tuple(sorted([n * dye + number for dye, number in zip(row, numbers)])) for row in self.dyes]

    def parted(self, sources, targets):
        """Returns a list of numbers for the places as sources and one for the places as targets, or None.

        A move that takes the sources to the targets takes each place to one whose number as a target is its number
        as a source. None is returned if a number is not equally often in both lists, so that there is no such move.
        If no number occurs twice in a list, taking each place to the one of its number is a move.
        """
        places = range(len(self.dyes))
        ones = [indices_of(sources, x) for x in places]
        others = [indices_of(targets, x) for x in places]
        many = -1
        while True:
            numbers = {}
            ones = [numbers.setdefault(sight, len(numbers)) for sight in ones]
            others = [numbers.setdefault(sight, len(numbers)) for sight in others]
            if sorted(ones) != sorted(others):
                return None
            if len(numbers) == many:
                return ones, others
            many = len(numbers)
            ones = self.sights(ones)
            others = self.sights(others)

    def move(self, sources, targets):
        """Returns a move that takes each of the sources to the target with its index, or None."""
        parts = self.parted(sources, targets)
        if parts is None:
            return None
        ones, others = parts
        target = first_doubled(others)
        if target is None:
            return tuple([others.index(number) for number in ones])
        failed = []
        for source in places_with(ones, others[target]):
            if not failed or self.leaders(sources)[source] not in failed:
                found = self.move(sources + (source,), targets + (target,))
                if found is not None:
                    return found
                failed.append(self.leaders(sources)[source])
        return None

    def leaders(self, fixed):
        """Returns for each place the least one to which moves that leave the fixed places can take it."""
        return leaders_by(len(self.dyes), links_of(self.generators(fixed)))

    def generators(self, fixed):
        """Returns moves that leave the fixed places where they are, and of which all such moves are made up."""
        numbers = self.parted(fixed, fixed)[0]
        # All places that are alone are left with the fixed ones, so these may be told by those.
        alone = tuple([x for x, number in enumerate(numbers) if numbers.count(number) == 1])
        if alone not in self.known:
            self.known[alone] = self.new_generators(alone, numbers)
        return self.known[alone]

    def new_generators(self, fixed, numbers):
        """Returns what `generators` returns, from those that leave one more place where it is."""
        base = first_doubled(numbers)
        if base is None:
            return ()
        found = self.generators(fixed + (base,))
        leaders = leaders_by(len(numbers), links_of(found))
        failed = []
        for target in places_with(numbers, numbers[base]):
            if leaders[target] not in [leaders[x] for x in failed + [base]]:
                move = self.move(fixed + (base,), fixed + (target,))
                if move is None:
                    failed.append(target)
                else:
                    found = found + (move,)
                    leaders = leaders_by(len(numbers), links_of(found))
        return found

    def size(self):
        """Returns the number of all moves."""
        many = 1
        for x in range(len(self.dyes)):
            leaders = self.leaders(tuple(range(x)))
            many = many * leaders.count(leaders[x])
        return many


def indices_of(row, entry):
    """Returns the ascending tuple of the indices at which an entry stands in a row."""
    return tuple([at for at, own in enumerate(row) if own == entry])


def first_doubled(numbers):
    """Returns the index of the first number that occurs more than once, or None."""
    for x, number in enumerate(numbers):
        if numbers.count(number) > 1:
            return x
    return None


def places_with(numbers, number):
    """Returns the places that have a number."""
    return [x for x, own in enumerate(numbers) if own == number]


def is_move(dyeing, value):
    """Tells whether any value is a move of a dyeing."""
    if not is_listing(value, len(dyeing)):
        return False
    return all([[dyeing[u][v] for v in value] == list(row) for u, row in zip(value, dyeing)])


def moves_of(dyeing):
    """Returns all moves, ascending."""
    search = MoveSearch(dyeing)
    if search.size() > MOST_MOVES:
        raise TooMany(MOST_MOVES)
    return tuple(sorted(made_up(len(dyeing), search.generators(()))))


def made_up(n, generators):
    """Returns the list of all listings of n numbers that come of the generators one after another."""
    found = {tuple(range(n)): True}
    latest = list(found)
    while latest:
        later = []
        for listing in latest:
            for move in generators:
                made = tuple([move[x] for x in listing])
                if made not in found:
                    found[made] = True
                    later.append(made)
        latest = later
    return list(found)


def move_count(dyeing):
    """Returns the number of moves."""
    return MoveSearch(dyeing).size()


def move_generators(dyeing):
    """Returns moves of which all moves are made up."""
    return MoveSearch(dyeing).generators(())


def carrying_move(dyeing, pair, other):
    """Returns a move that takes a pair to another one, or None if there is none."""
    return MoveSearch(dyeing).move(pair, other)
