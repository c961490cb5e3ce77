"""Numbers, names, lots and amounts (chapter 2), for all modules."""

from asmany.errors import InvalidNumber, InvalidPool, Refused

MOST_AMOUNT = 60
MOST_IN_POOL = 10 ** 18
MOST_KINDS = 8
MOST_WAYS = 200
MOST_MOST = 100000


def is_number(value):
    """Whether any value is a number."""
    return isinstance(value, int) and not isinstance(value, bool) and value >= 0


def is_number_to(value, most):
    """Whether any value is a number up to `most`."""
    return is_number(value) and value <= most


def are_numbers(value, count):
    """Whether any value is a tuple of exactly `count` numbers."""
    if not isinstance(value, tuple) or len(value) != count:
        return False
    return all([is_number(item) for item in value])


def is_name(value):
    """Whether any value is a name."""
    if not isinstance(value, str) or not 1 <= len(value) <= 5:
        return False
    return all(["a" <= sign <= "z" for sign in value])


def is_ascending(items):
    """Whether each item is greater than the one before it."""
    for at in range(1, len(items)):
        if not items[at - 1] < items[at]:
            return False
    return True


def are_kinds(value):
    """Whether any value is an ascending tuple of 1 to 8 different names."""
    if not isinstance(value, tuple) or not 1 <= len(value) <= MOST_KINDS:
        return False
    return all([is_name(item) for item in value]) and is_ascending(value)


def is_lot_of(value, kinds):
    """Whether any value is a lot, perhaps empty, of some of the kinds."""
    if not isinstance(value, tuple) or len(value) > len(kinds):
        return False
    for item in value:
        # A foreign object might answer == in a way of its own.
        if not isinstance(item, str) or item not in kinds:
            return False
    return is_ascending(value)


def check_lot(value, kinds, word="lot"):
    """Refuse any value that is no lot of some of the kinds, by the name of the parameter."""
    if not is_lot_of(value, kinds):
        raise Refused(word)


def check_kind(value, kinds):
    """Refuse any value that is none of the kinds."""
    if not isinstance(value, str) or value not in kinds:
        raise Refused("kind")


def check_most(most):
    """Raise InvalidNumber unless `most` is a number that may be asked for."""
    if not is_number_to(most, MOST_MOST) or most == 0:
        raise InvalidNumber("most")


def check_amounts(value, count):
    """Raise InvalidPool unless the value has `count` amounts of a pool."""
    if not isinstance(value, tuple) or len(value) != count:
        raise InvalidPool(-1)
    for at, amount in enumerate(value):
        if not is_number_to(amount, MOST_IN_POOL):
            raise InvalidPool(at)


def within(small, large):
    """Whether no amount of the first tuple is greater."""
    for one, other in zip(small, large):
        if one > other:
            return False
    return True


def has_within(ways, amounts):
    """Whether some of the ways is within the amounts."""
    for way in ways:
        for one, other in zip(way, amounts):
            if one > other:
                break
        else:
            return True
    return False


def plus(one, other):
    """The sum of two tuples of amounts."""
    return tuple([x + y for x, y in zip(one, other)])


def minus(one, other):
    """The difference of two tuples of amounts."""
    return tuple([x - y for x, y in zip(one, other)])


def greater(one, other):
    """The greater amount of each kind."""
    return tuple([max(x, y) for x, y in zip(one, other)])


def smaller(one, other):
    """The smaller amount of each kind."""
    return tuple([min(x, y) for x, y in zip(one, other)])


def mask_of(way):
    """The kinds that a way uses, as an integer with one bit for each."""
    mask = 0
    for at, amount in enumerate(way):
        if amount > 0:
            mask = mask | 1 << at
    return mask


def items_of_mask(items, mask):
    """The tuple of those items whose bits the mask has."""
    return tuple([item for at, item in enumerate(items) if mask >> at & 1])


def contains_one(mask, masks):
    """Whether the mask has all bits of one of the masks."""
    for one in masks:
        if mask & one == one:
            return True
    return False


def hits_all(mask, masks):
    """Whether the mask has a bit in common with each of the masks."""
    for one in masks:
        if mask & one == 0:
            return False
    return True


def least_hitting(masks, count):
    """The least masks of `count` bits that have a bit in common with each one."""
    least = []
    # In this order each mask comes behind all those that it contains.
    for mask in range(1 << count):
        if not contains_one(mask, least) and hits_all(mask, masks):
            least.append(mask)
    return least


def least_masks(masks):
    """Those masks that contain no other one, each once, ascending."""
    least = []
    for mask in sorted(set(masks)):
        if not contains_one(mask, least):
            least.append(mask)
    return least


def lots_of_masks(kinds, masks):
    """The lots of kinds of the masks, ascending."""
    return tuple(sorted([items_of_mask(kinds, mask) for mask in masks]))
