"""Rooms: how some dyes of an even dyeing part its places."""

from pairdyes.closings import check_closed, is_closed
from pairdyes.dyeings import dye_count, dyed
from pairdyes.errors import NotEven, NotRooms
from pairdyes.marks import place_parts
from pairdyes.numberings import numbered
from pairdyes.orders import leaders_by, parts_by


def is_even(dyeing):
    """Tells whether a dyeing is closed, has places, and has one dye at all its middle pairs."""
    return len({row[x] for x, row in enumerate(dyeing)}) == 1 and is_closed(dyeing)


def check_even(dyeing):
    """Raises NotEven for a dyeing that is not even."""
    if not is_even(dyeing):
        raise NotEven("the dyeing is not even")


def room_leaders(dyeing, dyes):
    """Returns for each place the least one that is reached from it along pairs of the dyes."""
    places = range(len(dyeing))
    return leaders_by(len(dyeing), [(x, y) for x in places for y in places if dyeing[x][y] in dyes])


def least_room_set(dyeing, dyes):
    """Returns the room set of an even dyeing with the dyes that has the fewest entries."""
    leaders = room_leaders(dyeing, dyes)
    # What is reached along pairs of some dyes of an even dyeing is reached by all pairs of a dye or by none.
    return tuple(sorted({
        dye for row, leader in zip(dyeing, leaders) for dye, own in zip(row, leaders) if own == leader
    }))


def check_rooms(dyeing, room_set):
    """Raises NotEven for a dyeing that is not even, and NotRooms for dyes that are no room set of it."""
    check_even(dyeing)
    if least_room_set(dyeing, room_set) != room_set:
        raise NotRooms("the dyes are no room set of the dyeing")


def room_set_of(dyeing, dyes):
    """Returns the room set with the dyes that has the fewest entries."""
    check_even(dyeing)
    return least_room_set(dyeing, dyes)


def room_sets(dyeing):
    """Returns all room sets, ascending."""
    check_even(dyeing)
    found = {(0,): True}
    latest = list(found)
    while latest:
        later = []
        for room_set in latest:
            for dye in range(dye_count(dyeing)):
                wider = room_set if dye in room_set else least_room_set(dyeing, room_set + (dye,))
                if wider not in found:
                    found[wider] = True
                    later.append(wider)
        latest = later
    return tuple(sorted(found))


def rooms(dyeing, room_set):
    """Returns the rooms of a room set: ascending tuples of places, ascending."""
    check_rooms(dyeing, room_set)
    return parts_by(room_leaders(dyeing, room_set))


def in_room(dyeing, room_set, k):
    """Returns the dyeing of the places of a room."""
    return numbered(dyeing, rooms(dyeing, room_set)[k])


def between_rooms(dyeing, room_set):
    """Returns the dyeing of the rooms by the dyes that the pairs from one to another one have."""
    parts = rooms(dyeing, room_set)
    return dyed([[dyes_between(dyeing, part, other) for other in parts] for part in parts])


def dyes_between(dyeing, part, other):
    """Returns the ascending tuple of the dyes from the places of one part to those of another one."""
    return tuple(sorted({dyeing[x][y] for x in part for y in other}))


def is_whole(dyeing):
    """Tells whether a dyeing is even, has at least two places, and has just two room sets."""
    if len(dyeing) < 2 or not is_even(dyeing):
        return False
    dyes = tuple(range(dye_count(dyeing)))
    return all([least_room_set(dyeing, (dye,)) == dyes for dye in dyes[1:]])


def lot_dyeing(dyeing, k):
    """Returns the dyeing of the places of a lot of a closed dyeing."""
    check_closed(dyeing)
    return numbered(dyeing, place_parts(dyeing)[k])
