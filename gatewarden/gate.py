"""The gate (points 8.1 to 8.3)."""

from gatewarden.books import ACCEPT, is_book
from gatewarden.errors import BadBook, BadExchange, Malformed, NoTalk
from gatewarden.packets import FIRST_BYTES, NOTE, read_packet, write_packet
from gatewarden.prefixes import exchanged, is_exchange
from gatewarden.talks import key_of, sender_of, talk_at, view_of
from gatewarden.views import sight_of
from gatewarden.walking import walk

# The interface of the outer network, whose packets have exchanged addresses.
OUTER = 1

# A refusal is a note: its ttl, its kind of note, and how many bytes it gives back.
NOTE_TTL = 64
UNREACHED = 3
BYTES_GIVEN_BACK = 8


def arrived(exchange, interface, row):
    """The reason why a byte row does not come to the book of a gate with an exchange, and None.

    If it does: an empty text, and the packet as seen inside.
    """
    try:
        packet = read_packet(row)
    except Malformed as error:
        return error.reason, None
    if packet[3] == 1:
        return "worn", None
    if interface == OUTER:
        packet = (packet[0], exchanged(exchange, packet[1]), *packet[2:])
    if packet[0] == packet[1]:
        return "mirror", None
    return "", packet


class Gate:
    """A gate with a book and an exchange, which keeps talks and counts."""

    def __init__(self, book, exchange):
        if not is_book(book):
            raise BadBook("this is no book")
        if not is_exchange(exchange):
            raise BadExchange("this is no exchange")
        self._book = book
        self._exchange = exchange
        self._talks = {}
        self._counts = {}

    def receive(self, interface, row):
        """What the gate does with a byte row that comes to an interface."""
        reason, packet = arrived(self._exchange, interface, row)
        if packet is None:
            return ("dropped", reason)
        decision = self._decided(sight_of(interface, packet))
        if decision == ACCEPT:
            return ("out", 1 - interface, self._sent_on(interface, packet))
        if decision[0] == "refuse" and packet[2] != NOTE:
            return ("back", interface, self._refusal(interface, packet, decision[1]))
        return ("dropped", "book")

    def _decided(self, sight):
        """The decision for a sight, with its counts noted and its talk moved."""
        key = key_of(sight)
        state = self._talks.get(key, 0)
        decision, _, noted, _ = walk(self._book, view_of(sight, state))
        for number in noted:
            self._counts[number] = self._counts.get(number, 0) + 1
        if decision == ACCEPT and key is not None:
            _, _, then = talk_at(sight[1], state, sender_of(sight), sight[6])
            self._set_state(key, then)
        return decision

    def _set_state(self, key, state):
        """Keeps the state of a talk; states 0 are not kept."""
        if state == 0:
            self._talks.pop(key, None)
        else:
            self._talks[key] = state

    def _sent_on(self, interface, packet):
        """The bytes of a packet, as seen inside, that goes out at the other interface."""
        source, destination, kind, ttl = packet[:4]
        if interface != OUTER:
            source = exchanged(self._exchange, source)
        return write_packet((source, destination, kind, ttl - 1, *packet[4:]))

    def _refusal(self, interface, packet, code):
        """The bytes of the note that tells a refusal of a packet as seen inside."""
        source = packet[1]
        if interface == OUTER:
            source = exchanged(self._exchange, source)
        start = FIRST_BYTES + len(packet[4])
        given_back = write_packet(packet)[start:start + BYTES_GIVEN_BACK]
        return write_packet((source, packet[0], NOTE, NOTE_TTL, (), (UNREACHED, code), given_back))

    def talks(self):
        """The pairs of a key and its state, for all states that are not 0."""
        return [(key, self._talks[key]) for key in sorted(self._talks)]

    def counts(self):
        """The pairs of a noted number and how often it was noted."""
        return [(number, self._counts[number]) for number in sorted(self._counts)]

    def forget(self, key):
        """Ends the talk of a key; NoTalk if there is none."""
        if key not in self._talks:
            raise NoTalk("there is no talk of this key")
        self._set_state(key, 0)

    def take_over(self, talks, counts):
        """Keeps the talks and counts of two lists of pairs in the place of its own."""
        self._talks = {key: state for key, state in talks}
        self._counts = {number: count for number, count in counts}

    def set_book(self, book):
        """Puts another book in the place of the gate's; BadBook if it is none."""
        if not is_book(book):
            raise BadBook("this is no book")
        self._book = book

    def book(self):
        """The book."""
        return self._book

    def exchange(self):
        """The exchange."""
        return self._exchange


def copy_of(gate):
    """A new gate that is as another one is."""
    found = Gate(gate.book(), gate.exchange())
    found.take_over(gate.talks(), gate.counts())
    return found
