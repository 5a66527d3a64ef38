"""Journals of what happened at a gate (points 18.1 to 18.4)."""

from gatewarden.books import is_book
from gatewarden.errors import BadBook, NoPlace, NoTalk
from gatewarden.gate import Gate, arrived
from gatewarden.prefixes import is_exchange
from gatewarden.shapes import first_text, is_number, is_tuple
from gatewarden.sums import is_byte_row
from gatewarden.talks import is_key, key_of, view_of
from gatewarden.views import sight_of
from gatewarden.walking import walk


def is_journal(value):
    """True if any value has the form of a journal."""
    if not is_tuple(value, 3) or not is_book(value[0]) or not is_exchange(value[1]):
        return False
    return type(value[2]) == tuple and all(_is_entry(entry) for entry in value[2])


def _is_entry(value):
    word = first_text(value)
    if word == "in":
        return len(value) == 4 and _is_row_at(value[1], value[2]) and _is_result(value[3])
    if word == "forget":
        return len(value) == 2 and is_key(value[1])
    return word == "book" and len(value) == 2 and is_book(value[1])


def _is_row_at(interface, row):
    """True if any two values are an interface and a byte row."""
    return is_number(interface, 0, 1) and is_byte_row(row)


def _is_result(value):
    """True if any value has the form of what a gate does with a byte row."""
    word = first_text(value)
    if word in ("out", "back"):
        return len(value) == 3 and _is_row_at(value[1], value[2])
    return word == "dropped" and len(value) == 2 and type(value[1]) == str


def _done(gate, deed):
    """The entry of a deed that is done at a gate, or None if it raises an error; an entry is a deed as well."""
    if deed[0] == "in":
        _, interface, row = deed[:3]
        return ("in", interface, row, gate.receive(interface, row))
    try:
        if deed[0] == "forget":
            gate.forget(deed[1])
        else:
            gate.set_book(deed[1])
    except NoTalk:
        return None
    except BadBook:
        return None
    return deed


def first_wrong(journal):
    """The number of the first entry that is not done as it is told, or None."""
    book, exchange, entries = journal
    gate = Gate(book, exchange)
    for number in range(len(entries)):
        if _done(gate, entries[number]) != entries[number]:
            return number
    return None


def recorded(book, exchange, deeds):
    """The true journal of some deeds, without those that raise an error."""
    gate = Gate(book, exchange)
    entries = []
    for deed in deeds:
        entry = _done(gate, deed)
        if entry is not None:
            entries.append(entry)
    return (book, exchange, tuple(entries))


def _sight_at(exchange, entry):
    """The sight of the packet of an entry, as the book sees it, or None if it does not come to the book."""
    _, interface, row, _ = entry
    _, packet = arrived(exchange, interface, row)
    return None if packet is None else sight_of(interface, packet)


def shortened(journal, key):
    """The true journal of what happened to one key, for a true journal."""
    book, exchange, entries = journal
    return (book, exchange, tuple(entry for entry in entries if _is_about(exchange, entry, key)))


def _is_about(exchange, entry, key):
    """True if an entry can change or ask the talk of a key, or changes the book."""
    if entry[0] == "in":
        sight = _sight_at(exchange, entry)
        return sight is not None and key_of(sight) == key
    return entry[0] == "book" or entry[1] == key


def blame(journal, number):
    """The places of the rules that were met for the packet of an entry of a true journal."""
    book, exchange, entries = journal
    if not 0 <= number < len(entries) or entries[number][0] != "in":
        raise NoPlace("there is no packet with this number")
    sight = _sight_at(exchange, entries[number])
    if sight is None:
        raise NoPlace("the packet did not come to the book")
    gate = Gate(book, exchange)
    for entry in entries[:number]:
        _done(gate, entry)
    states = {key: state for key, state in gate.talks()}
    _, _, _, met = walk(gate.book(), view_of(sight, states.get(key_of(sight), 0)))
    return met
