"""Amounts packed into one integer, and lengths as the bits of one."""

# Amounts are worked with as one integer: a field for each kind, the first one highest. The
# highest bit of each field may be set as a guard, above all amounts: what is subtracted is
# within them exactly if none of these bits is lost. Python hashes an integer by its remainder
# by 2 ** 61 - 1: with fields of 61 bits all pools with one sum would fall together in a dict.
FIELD = 69
GUARD_AT = 60
GUARD = 1 << 60


def packed(amounts):
    """The amounts as one integer."""
    whole = 0
    for amount in amounts:
        whole = whole << FIELD | amount
    return whole


def guarded(amounts):
    """The amounts as one integer with all guards."""
    return packed([GUARD | amount for amount in amounts])


def unpacked(whole, count):
    """The amounts of an integer without guards."""
    return tuple([whole >> FIELD * k & GUARD - 1 for k in reversed(range(count))])


def one_more(rows):
    """All lengths of the rows together, each one greater by 1.

    The lengths of a row are the bits of an integer, that of the least length first, behind
    the least length itself: lengths may be great, while they differ by little.
    """
    least = min([row[0] for row in rows])
    bits = 0
    for low, more in rows:
        bits = bits | more << low - least
    return least + 1, bits


def has_length(row, length):
    """Whether a row has a length."""
    return length >= row[0] and row[1] >> length - row[0] & 1 == 1


def lengths_of(row):
    """The lot of the lengths of a row."""
    low, bits = row
    return tuple([low + k for k in range(bits.bit_length()) if bits >> k & 1])
