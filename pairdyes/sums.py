"""Sums of rows of remainders, the dyeings by differences that cuts of their numbers give, and which are closed."""

from pairdyes.closings import closing, is_closed
from pairdyes.dyeings import dyed
from pairdyes.errors import NotAdditive, NotCut, TooMany
from pairdyes.joinings import all_joinings, is_joining_with_zero, part_indices
from pairdyes.numberings import is_listing
from pairdyes.orders import leaders_by, links_of, parts_by

MOST_CUT = 8


def number_count(sizes):
    """Returns how many numbers there are: the product of the sizes."""
    many = 1
    for size in sizes:
        many = many * size
    return many


def row_of(sizes, b):
    """Returns the row for which a number stands."""
    row = ()
    for size in reversed(sizes):
        row = (b % size,) + row
        b = b // size
    return row


def number_of(sizes, row):
    """Returns the number that stands for the row of the remainders of the entries of a row by the sizes."""
    number = 0
    for size, entry in zip(sizes, row):
        number = number * size + entry % size
    return number


def added(sizes, a, b):
    """Returns the number of the row of the remainders of the sums of two rows."""
    return number_of(sizes, [one + other for one, other in zip(row_of(sizes, a), row_of(sizes, b))])


def taken(sizes, a, b):
    """Returns the number of the row of the remainders of the differences of two rows."""
    return number_of(sizes, [one - other for one, other in zip(row_of(sizes, a), row_of(sizes, b))])


def check_cut(sizes, value):
    """Raises NotCut for any value that is no cut."""
    if not is_joining_with_zero(value, number_count(sizes)):
        raise NotCut("the value is no cut")


def cut_dyeing(sizes, cut):
    """Returns the dyeing in which the dye of (x, y) is the index of the part that has y less x."""
    check_cut(sizes, cut)
    parts = part_indices(cut)
    numbers = range(number_count(sizes))
    return dyed([[parts[taken(sizes, y, x)] for y in numbers] for x in numbers])


def is_closed_cut(sizes, cut):
    """Tells whether the dyeing of a cut is closed."""
    return is_closed(cut_dyeing(sizes, cut))


def check_few(sizes):
    """Raises TooMany if there are more numbers than all cuts or listings are looked through for."""
    if number_count(sizes) > MOST_CUT:
        raise TooMany(MOST_CUT)


def closed_cuts(sizes):
    """Returns all closed cuts, ascending."""
    check_few(sizes)
    cuts = [cut for cut in all_joinings(number_count(sizes)) if cut[0] == (0,)]
    return tuple([cut for cut in cuts if is_closed_cut(sizes, cut)])


def least_closed_cut(sizes, cut):
    """Returns the closed cut whose dyeing is the closing of the dyeing of a cut."""
    # Adding one number to all places is a move, so the pairs of the place 0 tell all others.
    return parts_by(closing(cut_dyeing(sizes, cut))[0])


def is_additive(sizes, listing):
    """Tells whether a listing takes the sum of any two numbers to the sum of what it takes them to."""
    numbers = range(len(listing))
    return all([
        listing[added(sizes, a, b)] == added(sizes, listing[a], listing[b]) for a in numbers for b in numbers
    ])


def additive_listings(sizes):
    """Returns all additive listings, ascending."""
    check_few(sizes)
    n = number_count(sizes)
    listings = [()]
    for _ in sizes:
        listings = [images + (number,) for images in listings for number in range(n)]
    listings = [listing_by(sizes, images) for images in listings]
    return tuple(sorted([listing for listing in listings if is_listing(listing, n) and is_additive(sizes, listing)]))


def listing_by(sizes, images):
    """Returns the row of what each number is taken to if the rows with one entry 1 are taken to the images."""
    taken_to = []
    for number in range(number_count(sizes)):
        image = 0
        for entry, own in zip(row_of(sizes, number), images):
            for _ in range(entry):
                image = added(sizes, image, own)
        taken_to.append(image)
    return tuple(taken_to)


def orbit_cut(sizes, listings):
    """Returns the cut in which numbers are in one part if one comes from the other by additive listings."""
    n = number_count(sizes)
    if not isinstance(listings, tuple):
        raise NotAdditive("the value is no tuple")
    if not all([is_listing(listing, n) and is_additive(sizes, listing) for listing in listings]):
        raise NotAdditive("an entry of the value is no additive listing")
    return parts_by(leaders_by(n, links_of(listings)))
