"""Letters: what a packet of a lane says beside its ends, its code and its length (point 9.3)."""

from gatewarden.packets import STREAM
from gatewarden.talks import talk_at
from gatewarden.views import has_ports


def letters_of(kind):
    """The letters of a kind; for kinds without talks the sender is 0."""
    senders = (0, 1) if has_ports(kind) else (0,)
    flags_top = 7 if kind == STREAM else 0
    return [
        (sender, interface, flags) for sender in senders for interface in (0, 1) for flags in range(flags_top + 1)
    ]


def moments_of(kind, top):
    """All quadruples of interface, flags, talk code and side that packets of a kind have.

    The states of the talk are those with numbers up to the top.
    """
    found = {}
    for state in range(-top, top + 1):
        for sender, interface, flags in letters_of(kind):
            code, side, _ = talk_at(kind, state, sender, flags)
            found[(interface, flags, code, side)] = True
    return list(found)
