"""Talks: their keys and states, and the views of packets (points 3.3 to 3.6)."""

from gatewarden.packets import ASKING, STREAM
from gatewarden.prefixes import is_address
from gatewarden.shapes import is_number, is_tuple
from gatewarden.views import has_ports

# For a state without its sign, a side and flags, the state after the packet; what is not here is wrong.
STREAM_MOVES = {
    (0, 0, 1): 1,
    (1, 0, 1): 1, (1, 1, 1): 2, (1, 0, 4): 0, (1, 1, 4): 0,
    (2, 0, 0): 2, (2, 1, 0): 2, (2, 0, 2): 3, (2, 1, 2): 4,
    (2, 0, 4): 0, (2, 1, 4): 0, (2, 0, 6): 0, (2, 1, 6): 0,
    (3, 0, 0): 3, (3, 1, 0): 3, (3, 0, 2): 3, (3, 1, 2): 0,
    (3, 0, 4): 0, (3, 1, 4): 0, (3, 0, 6): 0, (3, 1, 6): 0,
    (4, 0, 0): 4, (4, 1, 0): 4, (4, 0, 2): 0, (4, 1, 2): 4,
    (4, 0, 4): 0, (4, 1, 4): 0, (4, 0, 6): 0, (4, 1, 6): 0,
}

# For a state without its sign and a side, the state after the packet.
ASKING_MOVES = {(0, 0): 1, (1, 0): 1, (1, 1): 2, (2, 0): 2, (2, 1): 2}

# For the kinds with talks, the greatest number of a state.
GREATEST_STATES = {6: 4, 17: 2}

WRONG = 6

PORT_TOP = 65535


def _ends(sight):
    """The ends of a sight: that of its source and that of its destination."""
    return (sight[2], sight[3]), (sight[4], sight[5])


def key_of(sight):
    """The key of the talk of a sight, or None for kinds without talks."""
    kind = sight[1]
    if not has_ports(kind):
        return None
    first, second = sorted(_ends(sight))
    return (kind, first, second)


def is_key(value):
    """True if any value is the key of the talk of some sight."""
    if not is_tuple(value, 3) or not all(_is_end(end) for end in value[1:]):
        return False
    return type(value[0]) == int and value[0] in (STREAM, ASKING) and value[1][0] < value[2][0]


def _is_end(value):
    """True if any value is an address and a port."""
    return is_tuple(value, 2) and is_address(value[0]) and is_number(value[1], 0, PORT_TOP)


def sender_of(sight):
    """0 if the source is the first end of the key, or there is none, and otherwise 1."""
    if not has_ports(sight[1]):
        return 0
    source, destination = _ends(sight)
    return 0 if source < destination else 1


def side_of(state, sender):
    """0 if there is no talk or the sender has opened it, and otherwise 1."""
    if state == 0:
        return 0
    opener = 0 if state > 0 else 1
    return 0 if sender == opener else 1


def moved(kind, state, sender, flags):
    """The state of a talk after a packet, or None if the move is wrong."""
    side = side_of(state, sender)
    if kind == STREAM:
        number = STREAM_MOVES.get((abs(state), side, flags))
    else:
        number = ASKING_MOVES.get((abs(state), side))
    if number is None:
        return None
    by_first = state > 0 or (state == 0 and sender == 0)
    return number if by_first else -number


def talk_code(kind, state, sender, flags):
    """What a book sees of the state of a talk and of the move of a packet."""
    if not has_ports(kind):
        return 0
    if moved(kind, state, sender, flags) is None:
        return WRONG
    return abs(state) + 1


def talk_at(kind, state, sender, flags):
    """What a book sees of a talk, its code and the side of the packet, and the state if the packet is accepted."""
    if not has_ports(kind):
        return 0, 0, state
    then = moved(kind, state, sender, flags)
    return talk_code(kind, state, sender, flags), side_of(state, sender), state if then is None else then


def view_of(sight, state):
    """The view of a sight, for the state of its talk."""
    code, side, _ = talk_at(sight[1], state, sender_of(sight), sight[6])
    return (*sight, code, side)


def greatest_state(kind):
    """The greatest number of a state of a kind, 0 for kinds without talks."""
    return GREATEST_STATES.get(kind, 0)
