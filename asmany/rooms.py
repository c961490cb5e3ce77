"""Books and formulas of boats, even rooms, and formulas as boats."""

from asmany.basics import MOST_AMOUNT, MOST_KINDS, MOST_WAYS, is_number_to
from asmany.boats import Boat, fills, is_even_boat
from asmany.books import Book
from asmany.errors import InvalidNumber, Refused
from asmany.formulas import sizes_of
from asmany.sides import all_sides
from asmany.tables import formula_of_table, formula_pairs, two_of

MOST_SIZE = 200
MOST_EVEN_ROOM = 10000


def boat_book(boat):
    """The book whose ways are the loads that are within no other one."""
    _check_fills(boat)
    loads = [((0,) * len(boat.kinds), boat.room)]
    # Of the smallest kind, which comes last, as much is loaded as can be: that makes a load greatest.
    order = sorted([(size, at) for at, size in enumerate(boat.sizes)], reverse=True)
    for size, at in order[:-1]:
        loads = _more_loads(loads, at, size)
    smallest, last = order[-1]
    return Book(boat.kinds, tuple(sorted([_with(load, last, room // smallest) for load, room in loads])))


def boat_formula(boat):
    """The normal formula of the book of a boat, None if the boat is not even."""
    _check_fills(boat)
    if not is_even_boat(boat):
        return None
    most = dict(zip(boat.kinds, fills(boat)))
    return formula_of_table(most, {(one, other): min(most[one], most[other]) for one, other in two_of(boat.kinds)})


def even_rooms(sizes, most):
    """The lot of the even rooms up to a number."""
    _check_sizes(sizes)
    if not is_number_to(most, MOST_EVEN_ROOM):
        raise InvalidNumber("most")
    return tuple([room for room in range(max(sizes), most + 1) if _is_even_room(sizes, room)])


def last_even_room(sizes):
    """The greatest even room, None if there are none."""
    _check_sizes(sizes)
    # Of two sizes that do not divide each other the greater one fits less often than the smaller
    # one is great: else its rests, or what is too little for a further small one, would add up.
    ends = [one * other for one in sizes for other in sizes if one % other > 0 and other % one > 0]
    if not ends:
        raise Refused("endless")
    for room in reversed(range(max(sizes), min(ends))):
        if _is_even_room(sizes, room):
            return room
    return None


def boats_of(formula):
    """A boat for each side, None if a formula is not told by boats."""
    sizes = sizes_of(formula)
    for (one, other), number in formula_pairs(formula).items():
        if number not in (0, min(sizes[one], sizes[other])):
            return None
    boats = []
    for side in all_sides(formula):
        room = max([sizes[kind] for kind in side])
        boats.append(Boat(side, tuple([room // sizes[kind] for kind in side]), room))
    return tuple(boats)


def _check_fills(boat):
    """Refuse a boat that takes more of a kind than a way may have."""
    if max(fills(boat)) > MOST_AMOUNT:
        raise Refused("wide")


def _more_loads(loads, at, size):
    """The loads with any number of a further kind, each with the room that it leaves."""
    found = []
    for load, room in loads:
        for number in range(room // size + 1):
            # Each of them becomes at least one load that is within no other one.
            if len(found) == MOST_WAYS:
                raise Refused("wide")
            found.append((_with(load, at, number), room - number * size))
    return found


def _with(load, at, number):
    """The load with so many of a kind."""
    return (*load[:at], number, *load[at + 1:])


def _check_sizes(sizes):
    """Refuse any value that is no tuple of 1 to 8 sizes."""
    if not isinstance(sizes, tuple) or not 1 <= len(sizes) <= MOST_KINDS:
        raise Refused("sizes")
    for size in sizes:
        if not is_number_to(size, MOST_SIZE) or size == 0:
            raise Refused("sizes")


def _is_even_room(sizes, room):
    """Whether sizes, none greater than the room, make an even boat with it."""
    least = min(sizes)
    before = 1
    for most in sorted([room // size for size in sizes]):
        if most % before > 0:
            return False
        before = most
    return all([room % size < least for size in sizes])
