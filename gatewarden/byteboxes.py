"""Boxes of the bytes of packets and of what the machine may ask of views (point 13.1).

Where a box is asked often, its ranges are told by a dict from places to ranges.
"""

from gatewarden.machine import SPECIALS, is_closed
from gatewarden.packets import ASKING, FIRST_BYTES, GREATEST_LENGTH, NOTE, STREAM, options_end, write_packet
from gatewarden.shapes import is_ascending, is_number, is_tuple
from gatewarden.views import FIELDS, TOPS

FIRST = ("byte", 0)
KIND = ("byte", 1)
LENGTH = ("special", "length")

# The bytes before number 12 that a box may tell: what the machine may load of them.
HEAD_PLACES = (0, 1, 4, 8, 9, 10, 11)


def is_byte_box(value):
    """True if any value is a byte box."""
    if type(value) != tuple or not all(_is_told(item) for item in value):
        return False
    if not is_ascending([place for place, _ in value]):
        return False
    told = {place: numbers for place, numbers in value}
    return all(may_tell(told, place) for place in told)


def _is_told(value):
    """True if any value is a pair of a place and a range that is within its greatest one."""
    if not is_tuple(value, 2) or not is_place(value[0]) or not is_tuple(value[1], 2):
        return False
    low, high = value[1]
    least, greatest = greatest_range(value[0])
    return is_number(high, least, greatest) and is_number(low, least, high)


def is_place(value):
    """True if any value is a place."""
    if not is_tuple(value, 2) or type(value[0]) != str:
        return False
    if value[0] == "special":
        return type(value[1]) == str and value[1] in SPECIALS
    if value[0] != "byte" or not is_number(value[1], 0, GREATEST_LENGTH - 1):
        return False
    return value[1] >= FIRST_BYTES or value[1] in HEAD_PLACES


def may_tell(told, place):
    """True if a box with some ranges may tell a place, as far as these ranges decide it."""
    word, number = place
    if word == "special" or number < FIRST_BYTES:
        return True
    if not is_plain(told) or number >= range_of(told, LENGTH)[0]:
        return False
    return not is_closed(range_of(told, KIND)[0], inner_start(told), number)


def greatest_range(place):
    """The greatest range of a place."""
    word, name = place
    if word == "special":
        return (FIRST_BYTES if name == "length" else 0, TOPS[FIELDS.index(name)])
    if name == 0:
        return (70, 74)
    return (2 if name == 4 else 0, 255)


def range_of(told, place):
    """The range of a place in a byte box."""
    if place in told:
        return told[place]
    return greatest_range(place)


def is_plain(told):
    """True if a byte box tells where the inner head begins, and which form it has."""
    first, last = range_of(told, FIRST)
    low, high = range_of(told, KIND)
    return first == last and (low == high or not any(low <= kind <= high for kind in (NOTE, STREAM, ASKING)))


def inner_start(told):
    """The number of the first byte behind the options in a plain byte box."""
    return options_end(range_of(told, FIRST)[0])


def lies_in(box, packet, view):
    """True if a packet and its view lie in a byte box."""
    row = write_packet(packet)
    for (word, name), (low, high) in box:
        if word == "byte":
            # A box that tells a byte tells a length with which it is there.
            if name >= len(row) or not low <= row[name] <= high:
                return False
        elif not low <= view[FIELDS.index(name)] <= high:
            return False
    return True
