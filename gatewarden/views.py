"""Sights, histories, and the names and tops of the fields of views (points 3.1, 3.2, 3.6, 3.7)."""

from gatewarden.packets import ASKING, FIRST_BYTES, NOTE, STREAM, head_bytes, length_of
from gatewarden.shapes import is_number, is_tuple

FIELDS = [
    "interface", "kind", "source", "sport", "destination", "dport", "flags", "code", "length", "talk", "side",
]
TOPS = [1, 255, 65535, 65535, 65535, 65535, 7, 65535, 1500, 6, 1]

# A sight has the first fields of a view.
SIGHT_ITEMS = 9


def has_ports(kind):
    """True for the kinds that have ports; these are the kinds that have talks."""
    return kind in (STREAM, ASKING)


def least_length(kind):
    """The least length of a packet of a kind."""
    return FIRST_BYTES + head_bytes(kind)


def is_sight(value):
    """True if any value is a sight."""
    if not is_tuple(value, SIGHT_ITEMS):
        return False
    if not all(is_number(value[k], 0, TOPS[k]) for k in range(SIGHT_ITEMS)):
        return False
    kind, source, sport, destination, dport, flags, code, length = value[1:]
    if source == destination or length < least_length(kind):
        return False
    if not has_ports(kind) and (sport, dport) != (0, 0):
        return False
    return (kind == STREAM or flags == 0) and (kind == NOTE or code == 0)


def sight_of(interface, packet):
    """The sight of a packet that comes to an interface."""
    source, destination, kind, inner = packet[0], packet[1], packet[2], packet[5]
    sport, dport, flags, code = 0, 0, 0, 0
    if has_ports(kind):
        sport, dport = inner[:2]
    if kind == STREAM:
        flags = inner[2]
    if kind == NOTE:
        code = 256 * inner[0] + inner[1]
    return (interface, kind, source, sport, destination, dport, flags, code, length_of(packet))


def packet_of(sight):
    """The plainest packet with a sight: ttl 64, no options, a payload of bytes 0."""
    _, kind, source, sport, destination, dport, flags, code, length = sight
    inner = ()
    if kind == STREAM:
        inner = (sport, dport, flags)
    if kind == ASKING:
        inner = (sport, dport)
    if kind == NOTE:
        inner = (code // 256, code % 256)
    payload = (0,) * (length - least_length(kind))
    return (source, destination, kind, 64, (), inner, payload)


def is_history(value):
    """True if any value is a history."""
    return type(value) == tuple and all(is_sight(item) for item in value)
