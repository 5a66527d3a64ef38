"""What a plain byte box says of the packets in it and of their views (point 13.2)."""

from gatewarden.byteboxes import KIND, LENGTH, inner_start, range_of
from gatewarden.fieldbytes import has_field, places_of
from gatewarden.letters import moments_of
from gatewarden.packets import ASKING, FIRST_BYTES, NOTE, STREAM, head_bytes
from gatewarden.talks import greatest_state
from gatewarden.views import FIELDS, TOPS, sight_of

ADDRESS_PLACES = (("byte", 8), ("byte", 9), ("byte", 10), ("byte", 11))
MOMENT_FIELDS = ("interface", "flags", "talk", "side")


def field_ranges(told):
    """The box of a plain byte box."""
    kind, _ = range_of(told, KIND)
    return tuple(_field_range(told, kind, field) for field in FIELDS)


def _field_range(told, kind, field):
    if not has_field(kind, field):
        return (0, 0)
    low, high = 0, 0
    for place in places_of(field, inner_start(told)):
        least, greatest = range_of(told, place)
        low, high = 256 * low + least, 256 * high + greatest
    # The byte of the flags may be told greater than flags can be.
    top = TOPS[FIELDS.index(field)]
    return (min(low, top), min(high, top))


def field_parts(told, field):
    """The parts, as registers have them, of a field that the packets of a plain byte box have."""
    return tuple((place, (), 0) for place in places_of(field, inner_start(told)))


class ByteBoxes:
    """Plain byte boxes that are asked for the packets in them; what kinds allow is worked out once."""

    def __init__(self):
        self.moments = {}
        self.fitting = {}

    def is_void(self, told):
        """True if no packet with one of its views lies in a plain byte box."""
        kind, _ = range_of(told, KIND)
        least = inner_start(told) + head_bytes(kind)
        if range_of(told, LENGTH)[1] < least or _addresses(told) is None:
            return True
        return self._moment_in(told, kind) is None

    def _moment_in(self, told, kind):
        """The interface, flags, talk code and side of any view in a plain byte box, or None."""
        ranges = tuple(_moment_range(told, kind, field) for field in MOMENT_FIELDS)
        if kind not in self.moments:
            self.moments[kind] = moments_of(kind, greatest_state(kind))
        if (kind, ranges) not in self.fitting:
            self.fitting[(kind, ranges)] = _fitting(self.moments[kind], ranges)
        return self.fitting[(kind, ranges)]

    def sample(self, told):
        """Any packet and view that lie in a plain byte box that is not void."""
        kind, _ = range_of(told, KIND)
        interface, flags, code, side = self._moment_in(told, kind)
        start = inner_start(told)
        end = start + head_bytes(kind)
        length = max(range_of(told, LENGTH)[0], end)
        row = [range_of(told, ("byte", number))[0] for number in range(length)]
        inner = ()
        if kind in (STREAM, ASKING):
            inner = (256 * row[start] + row[start + 1], 256 * row[start + 2] + row[start + 3])
        if kind == STREAM:
            inner = (*inner, flags)
        if kind == NOTE:
            inner = (row[start], row[start + 1])
        source, destination = _addresses(told)
        options = tuple(row[FIRST_BYTES:start])
        packet = (source, destination, kind, row[4], options, inner, tuple(row[end:]))
        return packet, (*sight_of(interface, packet), code, side)


def _moment_range(told, kind, field):
    """The range of a field of a moment as its bytes tell it: no view has flags above their top."""
    if not has_field(kind, field):
        return (0, 0)
    return range_of(told, places_of(field, inner_start(told))[0])


def _fitting(moments, ranges):
    """The first of some moments that lies in some ranges, or None."""
    for moment in moments:
        if all(ranges[k][0] <= moment[k] <= ranges[k][1] for k in range(len(ranges))):
            return moment
    return None


def _addresses(told):
    """Two different addresses whose bytes are in their ranges, or None."""
    ranges = [range_of(told, place) for place in ADDRESS_PLACES]
    lows = [low for low, _ in ranges]
    if lows[:2] == lows[2:]:
        wide = [k for k in range(len(ranges)) if ranges[k][0] < ranges[k][1]]
        if not wide:
            return None
        lows[wide[0]] += 1
    return 256 * lows[0] + lows[1], 256 * lows[2] + lows[3]
