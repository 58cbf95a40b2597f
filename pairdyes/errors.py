"""The errors of the package: `DyeError`, and one direct subclass of it for each kind of failure."""


class DyeError(ValueError):
    """What all errors of the package have in common."""


class NotDyeing(DyeError):
    """A value is no dyeing: the first rule that it breaks, and where."""

    def __init__(self, rule, place):
        super().__init__(f"no dyeing: it breaks the rule {rule} at {place}")
        self.rule = rule
        self.place = place


class NotText(DyeError):
    """A string tells no dyeing: the length of its longest beginning with which some text begins."""

    def __init__(self, place):
        super().__init__(f"no text of a dyeing: it fails at {place}")
        self.place = place


class TooMany(DyeError):
    """There are more of something than the limit."""

    def __init__(self, limit):
        super().__init__(f"more than {limit}")
        self.limit = limit


class TooGreat(DyeError):
    """A number is above the limit."""

    def __init__(self, limit):
        super().__init__(f"a number above {limit}")
        self.limit = limit


class NotFit(DyeError):
    """Two dyeings have unlike numbers of places."""


class NotSteps(DyeError):
    """A value is no row of steps: -1, or the index of the first entry that is no step."""

    def __init__(self, place):
        super().__init__(f"no row of steps: it fails at {place}")
        self.place = place


class NotClosed(DyeError):
    """A dyeing is not closed."""


class NotJoining(DyeError):
    """A value is no joining."""


class NotLeads(DyeError):
    """A value is no tuple of leads."""


class NotEven(DyeError):
    """A dyeing is not even."""


class NotRooms(DyeError):
    """Some dyes are no room set."""


class NotPlain(DyeError):
    """A dyeing is not plain."""


class NotCut(DyeError):
    """A value is no cut."""


class NotAdditive(DyeError):
    """A value is no tuple of additive listings."""


class NotWeighing(DyeError):
    """A value is no weighing: where it fails."""

    def __init__(self, place):
        super().__init__(f"no weighing: it fails at {place}")
        self.place = place


class NotTied(DyeError):
    """A web does not hang together."""


class NotSteady(DyeError):
    """A web is not steady: the least distance at which the numbers of neighbours differ."""

    def __init__(self, distance):
        super().__init__(f"not steady at the distance {distance}")
        self.distance = distance


class NotDeed(DyeError):
    """A value is no deed for a dyeing."""


class NotDone(DyeError):
    """No deed stands that could be taken back."""


class NotUndone(DyeError):
    """No deed was taken back that could be done again."""
