"""Boats: trips of a crowd, and splits."""

from asmany.basics import are_kinds, are_numbers, check_amounts, is_number_to
from asmany.basics import minus, plus, within
from asmany.errors import InvalidNumber, Refused

MOST_ROOM = 10 ** 9


class Boat:
    """Kinds, the size of one of each, and the room for them."""

    def __init__(self, kinds, sizes, room):
        if not are_kinds(kinds):
            raise Refused("kinds")
        if not is_number_to(room, MOST_ROOM) or room == 0:
            raise InvalidNumber("room")
        if not are_numbers(sizes, len(kinds)) or min(sizes) == 0 or max(sizes) > room:
            raise Refused("sizes")
        self.kinds = kinds
        self.sizes = sizes
        self.room = room


def fills(boat):
    """How many of each kind alone fill the boat."""
    return tuple([boat.room // size for size in boat.sizes])


def is_trip(boat, crowd, value):
    """Whether any value is a trip of the crowd."""
    check_amounts(crowd, len(boat.kinds))
    return _is_trip_of(boat, crowd, value)


def is_even_boat(boat):
    """Whether for each crowd all complete rounds of trips have one length."""
    return split_of(boat) is None


def split_of(boat):
    """Some split, None if there is none."""
    for a in range(len(boat.sizes)):
        for b in range(len(boat.sizes)):
            if boat.sizes[a] >= boat.sizes[b]:
                split = _split_of_two(boat.sizes[a], boat.sizes[b], boat.room)
                if split is not None:
                    return tuple([_load_of_two(boat, a, b, pair) for pair in split])
    return None


def is_split(boat, value):
    """Whether any value is a split."""
    if not isinstance(value, tuple) or len(value) != 3:
        return False
    one, other, trip = value
    if not _is_load(boat, one) or not _is_load(boat, other):
        return False
    crowd = plus(one, other)
    return _is_trip_of(boat, crowd, trip) and not _is_load(boat, minus(crowd, trip))


def trips(boat, crowd):
    """How many trips a crowd needs by an even boat."""
    used, whole = _used_of_whole(boat, crowd)
    return -(-used // whole)


def spare(boat, crowd):
    """How many of each kind alone can be added without a further trip."""
    used, whole = _used_of_whole(boat, crowd)
    return tuple([-used % whole // (whole // most) for most in fills(boat)])


def _used_of_whole(boat, crowd):
    """The crowd's share of boats, in parts of which `whole` make a boat."""
    check_amounts(crowd, len(boat.kinds))
    if not is_even_boat(boat):
        raise Refused("uneven")
    # In an even boat each of the numbers that fill it divides the greatest one.
    whole = max(fills(boat))
    return sum([amount * (whole // most) for amount, most in zip(crowd, fills(boat))]), whole


def _used_room(boat, load):
    """The sum of the sizes."""
    return sum([amount * size for amount, size in zip(load, boat.sizes)])


def _is_load(boat, value):
    """Whether any value is a load."""
    return are_numbers(value, len(boat.kinds)) and _used_room(boat, value) <= boat.room


def _is_trip_of(boat, crowd, value):
    """Whether any value is a trip of these amounts."""
    if not _is_load(boat, value) or max(value) == 0 or not within(value, crowd):
        return False
    free = boat.room - _used_room(boat, value)
    for size, taken, there in zip(boat.sizes, value, crowd):
        if taken < there and size <= free:
            return False
    return True


def _load_of_two(boat, a, b, pair):
    """The load with these two amounts of two kinds."""
    load = [0] * len(boat.sizes)
    load[a] = pair[0]
    load[b] = pair[1]
    return tuple(load)


def _split_of_two(large, small, room):
    """A split of a boat with two sizes, large >= small; None if there is none."""
    most = room // large
    rest = room - most * large
    if rest >= small:
        # One large less makes room for twice the small ones: too many large ones stay.
        beside = rest // small
        return (most, beside), (most, beside), (most - 1, 2 * beside)
    # The first large one that stays behind makes room for `gain` small ones, and the rest grows
    # by `slip`. The boat is even if it is so for each large one. Otherwise `less` is the number
    # of those for which it is so: the next one makes room for one small one more, or one less.
    gain = (rest + large) // small
    slip = large - gain * small
    if room // small == most * gain:
        return None
    if slip > 0:
        less = -((rest - small) // slip) - 1
        before = (most - less + 1, gain * (less - 1))
        behind = (most - less - 1, gain * (less + 1) + 1)
        return before, behind, (most - less, gain * less)
    less = rest // -slip
    level = (most - less, gain * less)
    return level, level, (most - less + 1, gain * (less - 1))
