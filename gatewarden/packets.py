"""Packets and their bytes (points 2.2 to 2.4)."""

from gatewarden.errors import Malformed
from gatewarden.prefixes import is_address
from gatewarden.shapes import is_number, is_tuple
from gatewarden.sums import folded, is_byte_row, sum_of, words_of

STREAM = 6
ASKING = 17
NOTE = 1

# The bytes before the options.
FIRST_BYTES = 12
GREATEST_LENGTH = 1500

# For the kinds of a stream, an asking and a note: the bytes of the inner head with its sum,
# the place of the sum in it, and the tops of its items.
HEAD_BYTES = {6: 8, 17: 6, 1: 4}
SUM_PLACES = {6: 6, 17: 4, 1: 2}
INNER_TOPS = {6: (65535, 65535, 7), 17: (65535, 65535), 1: (255, 255)}


def is_packet(value):
    """True if any value is a packet."""
    if not is_tuple(value, 7):
        return False
    source, destination, kind, ttl, options, inner, payload = value
    if not is_address(source) or not is_address(destination):
        return False
    if not is_number(kind, 0, 255) or not is_number(ttl, 1, 255):
        return False
    if not is_byte_row(options) or len(options) not in (0, 2, 4, 6, 8):
        return False
    return _is_inner(kind, inner) and is_byte_row(payload) and length_of(value) <= GREATEST_LENGTH


def _is_inner(kind, value):
    tops = INNER_TOPS.get(kind, ())
    return is_tuple(value, len(tops)) and all(is_number(value[k], 0, tops[k]) for k in range(len(tops)))


def head_bytes(kind):
    """The number of the bytes of the inner head of a kind, with its sum."""
    return HEAD_BYTES.get(kind, 0)


def length_of(packet):
    """The length of a packet."""
    kind, options, payload = packet[2], packet[4], packet[6]
    return FIRST_BYTES + len(options) + head_bytes(kind) + len(payload)


def write_packet(packet):
    """The bytes of a packet."""
    source, destination, kind, ttl, options, inner, payload = packet
    start = (70 + len(options) // 2, kind, *_two(length_of(packet)), ttl, 0)
    ends = (*_two(source), *_two(destination), *options)
    check = sum_of((*start, 0, 0, *ends))
    behind = (*_inner_bytes(kind, inner), *payload)
    if kind in SUM_PLACES:
        at = SUM_PLACES[kind]
        inner_check = sum_of(_inner_row(source, destination, kind, behind))
        behind = (*behind[:at], *_two(inner_check), *behind[at + 2:])
    return (*start, *_two(check), *ends, *behind)


def _two(number):
    """The two bytes of a number, the greater one first."""
    return (number // 256, number % 256)


def _inner_bytes(kind, inner):
    """The bytes of an inner head, with two bytes 0 in the place of the sum."""
    if kind == STREAM:
        return (*_two(inner[0]), *_two(inner[1]), inner[2], 0, 0, 0)
    if kind == ASKING:
        return (*_two(inner[0]), *_two(inner[1]), 0, 0)
    if kind == NOTE:
        return (*inner, 0, 0)
    return ()


def _inner_row(source, destination, kind, behind):
    """The row of which the second sum is taken, for the bytes behind the options."""
    return (*_two(source), *_two(destination), *_two(kind), *_two(len(behind)), *behind)


def read_packet(row):
    """The packet that a byte row has; Malformed if it has none."""
    reason = _outer_fault(row)
    if reason:
        raise Malformed(reason)
    end = options_end(row[0])
    source, destination, kind, behind = _word(row, 8), _word(row, 10), row[1], row[end:]
    reason = _inner_fault(source, destination, kind, behind)
    if reason:
        raise Malformed(reason)
    inner = _read_inner(kind, behind)
    return (source, destination, kind, row[4], row[FIRST_BYTES:end], inner, behind[head_bytes(kind):])


def _word(row, at):
    return 256 * row[at] + row[at + 1]


def options_end(first_byte):
    """The number of the bytes up to the end of the options, as the first byte tells it."""
    return 2 * (first_byte - 64)


def _outer_fault(row):
    """The first reason against the part up to the end of the options, or an empty text."""
    if len(row) < FIRST_BYTES:
        return "short"
    if not 70 <= row[0] <= 74:
        return "version"
    if _word(row, 2) != len(row) or len(row) > GREATEST_LENGTH:
        return "length"
    end = options_end(row[0])
    if len(row) < end:
        return "header"
    if folded(words_of(row[:end])) != 65535:
        return "sum"
    if row[5] != 0:
        return "zero"
    if row[4] == 0:
        return "ttl"
    return ""


def _inner_fault(source, destination, kind, behind):
    """The first reason against the bytes behind the options, or an empty text."""
    if len(behind) < head_bytes(kind):
        return "inner"
    if kind == STREAM and (behind[4] > 7 or behind[5] != 0):
        return "flags"
    if kind in SUM_PLACES and folded(words_of(_inner_row(source, destination, kind, behind))) != 65535:
        return "inner sum"
    return ""


def _read_inner(kind, behind):
    """The inner head that the bytes behind the options begin with."""
    if kind == STREAM:
        return (_word(behind, 0), _word(behind, 2), behind[4])
    if kind == ASKING:
        return (_word(behind, 0), _word(behind, 2))
    if kind == NOTE:
        return (behind[0], behind[1])
    return ()
