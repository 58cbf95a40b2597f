"""Deeds that make one dyeing of another one, and books that do them and take them back."""

from pairdyes.closings import closing
from pairdyes.dyeings import MOST_PLACES, dye_count, dyed, dyeing_breach, is_ascending, is_below
from pairdyes.errors import NotDeed, NotDone, NotUndone, TooMany
from pairdyes.marks import marked
from pairdyes.numberings import is_listing, numbered, turned
from pairdyes.products import side_by_side

PART_COUNTS = {"part": 3, "join": 3, "mark": 2, "list": 2, "turn": 1, "close": 1, "beside": 2}


def is_deed(dyeing, value):
    """Tells whether any value is a deed for a dyeing."""
    if not isinstance(value, tuple) or len(value) == 0 or not isinstance(value[0], str):
        return False
    word = value[0]
    if PART_COUNTS.get(word, 0) != len(value):
        return False
    if word == "join":
        return is_ascending(value[1:], dye_count(dyeing))
    if word == "list":
        return is_listing(value[1], len(dyeing))
    if word == "beside":
        return dyeing_breach(value[1]) is None and len(dyeing) + len(value[1]) <= MOST_PLACES
    return all([is_below(place, len(dyeing)) for place in value[1:]])


def done(dyeing, deed):
    """Returns the dyeing behind a deed, and raises NotDeed for any value that is no deed for the dyeing."""
    if not is_deed(dyeing, deed):
        raise NotDeed("the value is no deed for the dyeing")
    word = deed[0]
    if word == "part":
        return parted(dyeing, deed[1], deed[2])
    if word == "join":
        return dyed([[deed[1] if dye == deed[2] else dye for dye in row] for row in dyeing])
    if word == "mark":
        return marked(dyeing, deed[1:])
    if word == "list":
        return numbered(dyeing, deed[1])
    if word == "turn":
        return turned(dyeing)
    if word == "close":
        return closing(dyeing)
    return side_by_side(dyeing, deed[1])


def parted(dyeing, x, y):
    """Returns the dyeing in which a pair has a dye of its own."""
    table = [list(row) for row in dyeing]
    # No dye is below 0, so no other pair has this entry.
    table[x][y] = -1
    return dyed(table)


class Book:
    """A dyeing with the deeds that were done with it, which can be taken back and done again."""

    def __init__(self, dyeing, *, most=40):
        self._most = most
        # The dyeings behind each number of the deeds that stand; and the deeds taken back, the latest one last.
        self._stages = (dyeing,)
        self._deeds = ()
        self._undone = ()

    @property
    def now(self):
        """The dyeing as it stands."""
        return self._stages[-1]

    @property
    def deeds(self):
        """The deeds that stand, from the first one on."""
        return self._deeds

    def do(self, deed):
        """Does a deed and forgets what was undone."""
        behind = done(self._stages[-1], deed)
        if len(self._deeds) >= self._most:
            raise TooMany(self._most)
        self._stages = self._stages + (behind,)
        self._deeds = self._deeds + (deed,)
        self._undone = ()

    def undo(self):
        """Takes back the last deed that stands and returns it."""
        if len(self._deeds) == 0:
            raise NotDone("no deed stands")
        deed = self._deeds[-1]
        self._undone = self._undone + (deed,)
        self._stages = self._stages[:-1]
        self._deeds = self._deeds[:-1]
        return deed

    def again(self):
        """Does the deed that was taken back last and returns it."""
        if len(self._undone) == 0:
            raise NotUndone("no deed was taken back")
        deed = self._undone[-1]
        self._stages = self._stages + (done(self._stages[-1], deed),)
        self._deeds = self._deeds + (deed,)
        self._undone = self._undone[:-1]
        return deed

    def trial(self, deeds):
        """Returns the dyeing that would stand if the deeds of a tuple were done one after another."""
        if not isinstance(deeds, tuple):
            raise NotDeed("the value is no tuple of deeds")
        dyeing = self._stages[-1]
        for deed in deeds:
            dyeing = done(dyeing, deed)
        return dyeing

    def twin(self):
        """Returns a book of its own with the same dyeing, deeds, deeds taken back, and most."""
        other = Book(self._stages[0], most=self._most)
        other._stages = self._stages
        other._deeds = self._deeds
        other._undone = self._undone
        return other
