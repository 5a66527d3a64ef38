"""Addresses, prefixes and exchanges of prefixes (points 1.5 to 1.7)."""

from gatewarden.ranges import both, either, set_of, without
from gatewarden.shapes import is_number, is_tuple


def is_address(value):
    """True if any value is an address."""
    return is_number(value, 0, 65535)


def is_prefix(value):
    """True if any value is a prefix."""
    if not is_tuple(value, 2):
        return False
    base, length = value
    return is_address(base) and is_number(length, 0, 16) and base % _size(length) == 0


def _size(length):
    """The number of the addresses that a prefix of a length holds."""
    return 65536 >> length


def held(prefix):
    """The set of the addresses that a prefix holds."""
    base, length = prefix
    return ((base, base + _size(length) - 1),)


def _holds(prefix, address):
    base, length = prefix
    return base <= address < base + _size(length)


def cover(a):
    """The fewest prefixes that together hold exactly the addresses of a set."""
    found = []
    for low, high in a:
        while low <= high:
            prefix = _widest(low, high)
            found.append(prefix)
            low += _size(prefix[1])
    return found


def _widest(low, high):
    """The prefix with the base low that holds the most addresses, none of them above high."""
    length = 16
    while length > 0 and low % _size(length - 1) == 0 and low + _size(length - 1) - 1 <= high:
        length -= 1
    return (low, length)


def longest(prefixes, address):
    """The prefix with the greatest length that holds an address, or None."""
    best = None
    for prefix in prefixes:
        if _holds(prefix, address) and (best is None or prefix[1] > best[1]):
            best = prefix
    return best


def is_exchange(value):
    """True if any value is an exchange."""
    if type(value) != tuple:
        return False
    prefixes = []
    for pair in value:
        if not is_tuple(pair, 2) or not is_prefix(pair[0]) or not is_prefix(pair[1]):
            return False
        if pair[0][1] != pair[1][1]:
            return False
        prefixes.extend(pair)
    return not _overlap(prefixes)


def _overlap(prefixes):
    """True if two prefixes of a list hold a common address."""
    end = 0
    for base, length in sorted(prefixes):
        if base < end:
            return True
        end = base + _size(length)
    return False


def _ways(exchange):
    """The pairs of an exchange in both directions."""
    return list(exchange) + [(other, one) for one, other in exchange]


def exchanged(exchange, address):
    """The address that an exchange puts in the place of an address."""
    for one, other in _ways(exchange):
        if _holds(one, address):
            return address - one[0] + other[0]
    return address


def exchanged_set(exchange, a):
    """The set of the exchanged addresses of a set of addresses."""
    rest = a
    moved = ()
    for one, other in _ways(exchange):
        part = both(a, held(one))
        rest = without(rest, part)
        shift = other[0] - one[0]
        moved = either(moved, set_of([(low + shift, high + shift) for low, high in part]))
    return either(rest, moved)
