"""Finite sets of integers as tuples of ranges, and their texts (points 1.1 to 1.4)."""

from gatewarden.errors import BadText
from gatewarden.numerals import is_numeral
from gatewarden.shapes import is_tuple


def is_set(value):
    """True if any value is a set."""
    if type(value) != tuple:
        return False
    least = 0
    for pair in value:
        if not is_tuple(pair, 2):
            return False
        low, high = pair
        if type(low) != int or type(high) != int or not least <= low <= high:
            return False
        # The integer behind a range is in no range, so the next one begins later.
        least = high + 2
    return True


def set_of(pairs):
    """The set of the integers that are in at least one of the pairs."""
    found = []
    for low, high in sorted(pairs):
        if low > high:
            continue
        if found and low <= found[-1][1] + 1:
            found[-1] = (found[-1][0], max(high, found[-1][1]))
        else:
            found.append((low, high))
    return tuple(found)


def both(a, b):
    """The set of the integers that are in both sets."""
    found = []
    i, k = 0, 0
    while i < len(a) and k < len(b):
        low = max(a[i][0], b[k][0])
        high = min(a[i][1], b[k][1])
        if low <= high:
            found.append((low, high))
        if a[i][1] < b[k][1]:
            i += 1
        else:
            k += 1
    return tuple(found)


def either(a, b):
    """The set of the integers that are in at least one of two sets."""
    return set_of(list(a) + list(b))


def without(a, b):
    """The set of the integers that are in the first set, but not in the second one."""
    if not a:
        return ()
    return both(a, outside(b, a[-1][1]))


def outside(a, top):
    """The set of the integers from 0 to top that are not in a set."""
    found = []
    start = 0
    for low, high in a:
        if low > top:
            break
        if start < low:
            found.append((start, low - 1))
        start = high + 1
    if start <= top:
        found.append((start, top))
    return tuple(found)


def contains(a, number):
    """True if a number is in a set."""
    for low, high in a:
        if number <= high:
            return low <= number
    return False


def is_within(a, b):
    """True if each integer of the first set is in the second one."""
    return both(a, b) == a


def members(a):
    """The number of the integers in a set."""
    return sum(high - low + 1 for low, high in a)


def ends_of(sets, top):
    """The numbers from 1 to top at which some set begins or has just ended."""
    found = {}
    for a in sets:
        for low, high in a:
            found[low] = True
            found[high + 1] = True
    return [at for at in sorted(found) if 1 <= at <= top]


def write_set(a):
    """The text of a set."""
    if not a:
        return "none"
    return ",".join([_write_pair(low, high) for low, high in a])


def _write_pair(low, high):
    if low == high:
        return str(low)
    return f"{low}-{high}"


def read_set(text):
    """The set that has a text; BadText if there is none."""
    if text == "none":
        return ()
    pairs = []
    for part in text.split(","):
        low, dash, high = part.partition("-")
        if not is_numeral(low) or (dash and not is_numeral(high)):
            raise BadText("no set has this text")
        pairs.append((int(low), int(high) if dash else int(low)))
    found = tuple(pairs)
    # Only the text that the set itself has is taken: not 3-3, not 3,4.
    if not is_set(found) or write_set(found) != text:
        raise BadText("no set has this text")
    return found
