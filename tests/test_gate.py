"""Points 8.1 to 8.3: the gate."""

import inspect
import random
import unittest

from gatewarden.errors import BadBook, BadExchange, Malformed, NoTalk
from gatewarden.gate import Gate
from gatewarden.packets import read_packet, write_packet
from gatewarden.views import packet_of, sight_of
from tests.bookhelp import B, plain_walk
from tests.helpers import odd_values
from tests.historyhelp import (
    ACCEPT, ALL, DROP, KEEPER, NOTHING, NO_TALK, late_book, living_book, only, plain_key, plain_look, random_history,
    signed, small_fields,
)

# The inner addresses 256 to 511 are known outside as 512 to 767.
EXCHANGE = (((256, 8), (512, 8)),)
REFUSE = (("main", (), ("refuse", 7)),)
COUNTING = (("main", (((), ("count", 4)), ((("kind", ((6, 6),)),), ("count", 9)), ((("kind", ((6, 6),)),), ACCEPT)), DROP),)


def asking(source, destination, sport=7, dport=80, ttl=64, options=(), payload=()):
    return (source, destination, 17, ttl, options, (sport, dport), payload)


def stream(source, destination, flags=1, sport=7, dport=80, ttl=64, options=(), payload=()):
    return (source, destination, 6, ttl, options, (sport, dport, flags), payload)


def snapshot(gate):
    return gate.talks(), gate.counts(), gate.book(), gate.exchange()


class Made(unittest.TestCase):
    def test_new_gate(self):
        gate = Gate(B, EXCHANGE)
        self.assertEqual(gate.book(), B)
        self.assertEqual(gate.exchange(), EXCHANGE)
        self.assertEqual(gate.talks(), [])
        self.assertEqual(gate.counts(), [])

    def test_wrong_values(self):
        for value in odd_values() + [[B], list(B), (B,), (("main", (), ("back",)),)]:
            with self.assertRaises(BadBook):
                Gate(value, ())
            with self.assertRaises(BadBook):
                Gate(value, None)
        exchanges = [value for value in odd_values()] + [
            [], list(EXCHANGE), (((256, 8), (512, 7)),), (((256, 8), (256, 8)),), (((1, 8), (512, 8)),), ((256, 8),),
        ]
        for value in exchanges:
            with self.assertRaises(BadExchange):
                Gate(B, value)
        with self.assertRaises(BadBook):
            Gate([B], [EXCHANGE])

    def test_methods_stand_in_the_class(self):
        for name, arguments in [
            ("receive", ["self", "interface", "row"]), ("talks", ["self"]), ("counts", ["self"]),
            ("forget", ["self", "key"]), ("set_book", ["self", "book"]), ("book", ["self"]), ("exchange", ["self"]),
        ]:
            self.assertIn(name, vars(Gate))
            self.assertEqual(list(inspect.signature(vars(Gate)[name]).parameters), arguments)

    def test_example(self):
        gate = Gate(B, ())
        self.assertEqual(gate.receive(0, write_packet((9, 4, 17, 64, (), (7, 81), ())))[:2], ("back", 0))
        self.assertEqual(gate.receive(0, write_packet((9, 4, 17, 64, (), (7, 80), ())))[:2], ("out", 1))
        self.assertEqual(gate.talks(), [((17, (4, 80), (9, 7)), -1)])


class BeforeTheBook(unittest.TestCase):
    """Each step that ends before the book is walked: nothing is changed."""

    def unchanged(self, gate, interface, row, result):
        before = snapshot(gate)
        self.assertEqual(gate.receive(interface, row), result)
        self.assertEqual(snapshot(gate), before)

    def gate(self):
        gate = Gate(COUNTING, EXCHANGE)
        gate.receive(0, write_packet(stream(9, 4)))
        self.assertEqual(gate.counts(), [(4, 1), (9, 1)])
        return gate

    def test_malformed(self):
        gate = self.gate()
        good = write_packet(stream(9, 4))
        rows = {
            "short": good[:11], "version": (69,) + good[1:], "length": good + (0,), "sum": good[:4] + (63,) + good[5:],
            "flags": good[:16] + (8,) + good[17:], "inner sum": good[:-1] + (good[-1] ^ 1,),
        }
        for reason, row in rows.items():
            with self.assertRaises(Malformed):
                read_packet(row)
            for interface in (0, 1):
                self.unchanged(gate, interface, row, ("dropped", reason))
        self.unchanged(gate, 0, (), ("dropped", "short"))

    def test_reasons_are_those_of_the_packet(self):
        source = random.Random(121)
        gate = self.gate()
        good = write_packet(asking(9, 4, options=(1, 2), payload=(5, 6, 7)))
        for _ in range(300):
            row = list(good)
            for _ in range(source.randint(1, 2)):
                row[source.randrange(len(row))] = source.randrange(256)
            row = tuple(row[:source.choice((len(row), len(row), source.randrange(len(row))))])
            try:
                read_packet(row)
            except Malformed as error:
                self.unchanged(gate, source.randrange(2), row, ("dropped", error.reason))

    def test_worn(self):
        gate = self.gate()
        for interface in (0, 1):
            self.unchanged(gate, interface, write_packet(stream(9, 4, ttl=1)), ("dropped", "worn"))
        self.assertEqual(gate.receive(0, write_packet(stream(9, 4, ttl=2)))[0], "out")

    def test_mirror(self):
        gate = self.gate()
        for interface in (0, 1):
            self.unchanged(gate, interface, write_packet(stream(9, 9)), ("dropped", "mirror"))
        # From outside, the destination is exchanged first.
        self.unchanged(gate, 1, write_packet(stream(300, 556)), ("dropped", "mirror"))
        self.unchanged(gate, 1, write_packet(stream(556, 300)), ("dropped", "mirror"))
        self.assertEqual(gate.receive(0, write_packet(stream(300, 556)))[0], "out")
        self.assertEqual(gate.receive(1, write_packet(stream(556, 556)))[0], "out")
        self.unchanged(gate, 0, write_packet(stream(556, 556)), ("dropped", "mirror"))

    def test_two_at_once(self):
        gate = self.gate()
        worn_and_malformed = write_packet(stream(9, 4, ttl=1))[:-1] + (77,)
        self.unchanged(gate, 0, worn_and_malformed, ("dropped", "inner sum"))
        self.unchanged(gate, 0, write_packet(stream(9, 9))[:-1], ("dropped", "length"))
        self.unchanged(gate, 0, write_packet(stream(9, 9, ttl=1)), ("dropped", "worn"))
        self.unchanged(gate, 1, write_packet(stream(300, 556, ttl=1)), ("dropped", "worn"))
        gate.set_book(NOTHING)
        self.unchanged(gate, 0, write_packet(stream(9, 9)), ("dropped", "mirror"))
        self.unchanged(gate, 0, write_packet(stream(9, 4, ttl=1)), ("dropped", "worn"))
        self.unchanged(gate, 0, write_packet(stream(9, 4)), ("dropped", "book"))


class AtTheBook(unittest.TestCase):
    def test_out_from_inside(self):
        gate = Gate(ALL, EXCHANGE)
        packet = stream(300, 4, options=(1, 2), payload=(9, 9, 9))
        sent = stream(556, 4, options=(1, 2), payload=(9, 9, 9), ttl=63)
        self.assertEqual(gate.receive(0, write_packet(packet)), ("out", 1, write_packet(sent)))
        # The destination stays as it is, and the talk is that of the packet as seen inside.
        self.assertEqual(gate.receive(0, write_packet(stream(9, 300))), ("out", 1, write_packet(stream(9, 300, ttl=63))))
        self.assertEqual(gate.talks(), [((6, (4, 80), (300, 7)), -1), ((6, (9, 7), (300, 80)), 1)])

    def test_out_from_outside(self):
        gate = Gate(ALL, EXCHANGE)
        packet = stream(4, 556, sport=80, dport=7)
        sent = stream(4, 300, sport=80, dport=7, ttl=63)
        self.assertEqual(gate.receive(1, write_packet(packet)), ("out", 0, write_packet(sent)))
        self.assertEqual(gate.talks(), [((6, (4, 80), (300, 7)), 1)])
        # The source stays as it is.
        self.assertEqual(gate.receive(1, write_packet(stream(300, 4))), ("out", 0, write_packet(stream(300, 4, ttl=63))))

    def test_answers_find_their_talk(self):
        gate = Gate(KEEPER, EXCHANGE)
        self.assertEqual(gate.receive(1, write_packet(stream(4, 556, sport=80, dport=7))), ("dropped", "book"))
        gate.receive(0, write_packet(stream(300, 4)))
        result = gate.receive(1, write_packet(stream(4, 556, sport=80, dport=7)))
        self.assertEqual(result, ("out", 0, write_packet(stream(4, 300, sport=80, dport=7, ttl=63))))
        self.assertEqual(gate.talks(), [((6, (4, 80), (300, 7)), -2)])

    def test_the_book_sees_the_packet_as_seen_inside(self):
        inside = only(("destination", ((256, 511),)))
        self.assertEqual(Gate(inside, EXCHANGE).receive(1, write_packet(stream(4, 556)))[0], "out")
        self.assertEqual(Gate(inside, ()).receive(1, write_packet(stream(4, 556))), ("dropped", "book"))
        self.assertEqual(Gate(inside, EXCHANGE).receive(0, write_packet(stream(4, 556))), ("dropped", "book"))
        source = only(("source", ((256, 511),)))
        self.assertEqual(Gate(source, EXCHANGE).receive(0, write_packet(stream(300, 4)))[0], "out")
        self.assertEqual(Gate(source, EXCHANGE).receive(1, write_packet(stream(556, 4))), ("dropped", "book"))

    def test_interfaces_and_lengths(self):
        book = only(("interface", ((1, 1),)), ("length", ((29, 29),)))
        packet = stream(9, 4, options=(1, 2, 3, 4, 5, 6), payload=(1, 2, 3))
        self.assertEqual(Gate(book, ()).receive(1, write_packet(packet))[0], "out")
        self.assertEqual(Gate(book, ()).receive(0, write_packet(packet)), ("dropped", "book"))
        self.assertEqual(Gate(book, ()).receive(1, write_packet(packet[:-1] + ((1, 2),))), ("dropped", "book"))

    def test_kinds_without_talks(self):
        gate = Gate(ALL, EXCHANGE)
        for kind, inner in ((1, (3, 9)), (0, ()), (200, ())):
            packet = (300, 4, kind, 5, (), inner, (1, 2))
            sent = (556, 4, kind, 4, (), inner, (1, 2))
            self.assertEqual(gate.receive(0, write_packet(packet)), ("out", 1, write_packet(sent)))
        self.assertEqual(gate.talks(), [])

    def test_wrong_moves(self):
        gate = Gate(ALL, ())
        self.assertEqual(gate.receive(0, write_packet(stream(9, 4, flags=2)))[0], "out")
        self.assertEqual(gate.talks(), [])
        gate.receive(0, write_packet(stream(9, 4)))
        self.assertEqual(gate.receive(0, write_packet(stream(9, 4, flags=5)))[0], "out")
        self.assertEqual(gate.talks(), [((6, (4, 80), (9, 7)), -1)])

    def test_no_move_without_accept(self):
        for book in (NOTHING, REFUSE):
            gate = Gate(book, ())
            gate.receive(0, write_packet(stream(9, 4)))
            self.assertEqual(gate.talks(), [])
        gate = Gate(ALL, ())
        gate.receive(0, write_packet(stream(9, 4)))
        gate.set_book(REFUSE)
        gate.receive(1, write_packet(stream(4, 9, sport=80, dport=7, flags=4)))
        self.assertEqual(gate.talks(), [((6, (4, 80), (9, 7)), -1)])

    def test_talks_that_end(self):
        gate = Gate(ALL, ())
        gate.receive(0, write_packet(stream(9, 4)))
        gate.receive(0, write_packet(asking(9, 4)))
        gate.receive(0, write_packet(asking(2, 1, 5, 5)))
        self.assertEqual(
            gate.talks(), [((6, (4, 80), (9, 7)), -1), ((17, (1, 5), (2, 5)), -1), ((17, (4, 80), (9, 7)), -1)])
        gate.receive(1, write_packet(stream(4, 9, 4, 80, 7)))
        self.assertEqual(gate.talks(), [((17, (1, 5), (2, 5)), -1), ((17, (4, 80), (9, 7)), -1)])
        with self.assertRaises(NoTalk):
            gate.forget((6, (4, 80), (9, 7)))

    def test_counts(self):
        book = (("main", (((), ("count", 4)), ((), ("jump", "a")), ((), ("jump", "a"))), ("refuse", 1)),
                ("a", (((), ("count", 0)),), ("back",)))
        gate = Gate(book, ())
        for many in range(1, 4):
            self.assertEqual(gate.receive(0, write_packet(stream(9, 4)))[0], "back")
            self.assertEqual(gate.counts(), [(0, 2 * many), (4, many)])
        gate.set_book((("main", (((), ("count", 99)),), DROP),))
        self.assertEqual(gate.receive(0, write_packet(stream(9, 4))), ("dropped", "book"))
        self.assertEqual(gate.counts(), [(0, 6), (4, 3), (99, 1)])
        gate.set_book((("main", (((), ("count", 99)),), ACCEPT),))
        self.assertEqual(gate.receive(0, write_packet(stream(9, 4)))[0], "out")
        self.assertEqual(gate.counts(), [(0, 6), (4, 3), (99, 2)])


class Refusals(unittest.TestCase):
    def note(self, result):
        word, interface, row = result
        self.assertEqual(word, "back")
        return interface, read_packet(row)

    def test_from_inside(self):
        gate = Gate(REFUSE, EXCHANGE)
        packet = stream(300, 556, options=(1, 2, 3, 4), payload=(9, 8, 7), ttl=30)
        interface, note = self.note(gate.receive(0, write_packet(packet)))
        self.assertEqual(interface, 0)
        behind = write_packet(packet)[16:24]
        self.assertEqual(note, (556, 300, 1, 64, (), (3, 7), behind))

    def test_from_outside(self):
        gate = Gate(REFUSE, EXCHANGE)
        packet = stream(4, 556, payload=(9, 8, 7), ttl=30)
        interface, note = self.note(gate.receive(1, write_packet(packet)))
        self.assertEqual(interface, 1)
        # What is given back has the sum of the packet as seen inside.
        seen = write_packet(stream(4, 300, payload=(9, 8, 7), ttl=30))
        self.assertEqual(note, (556, 4, 1, 64, (), (3, 7), seen[12:20]))
        self.assertNotEqual(seen[12:20], write_packet(packet)[12:20])
        # A destination that the exchange does not know, and a source that it knows.
        _, note = self.note(gate.receive(1, write_packet(stream(300, 4))))
        self.assertEqual(note[:2], (4, 300))

    def test_few_bytes(self):
        gate = Gate(REFUSE, ())
        for many in range(12):
            payload = tuple(range(100, 100 + many))
            _, note = self.note(gate.receive(0, write_packet((9, 4, 50, 64, (7, 7), (), payload))))
            self.assertEqual(note, (4, 9, 1, 64, (), (3, 7), payload[:8]))
            packet = asking(9, 4, payload=payload)
            _, note = self.note(gate.receive(0, write_packet(packet)))
            self.assertEqual(note[6], write_packet(packet)[12:20])
            self.assertEqual(len(note[6]), min(8, 6 + many))

    def test_codes(self):
        for code in (0, 3, 255):
            gate = Gate((("main", (), ("refuse", code)),), ())
            _, note = self.note(gate.receive(0, write_packet(asking(9, 4))))
            self.assertEqual(note[5], (3, code))

    def test_notes_are_not_refused(self):
        gate = Gate((("main", (((), ("count", 5)),), ("refuse", 7)),), ())
        for interface in (0, 1):
            self.assertEqual(gate.receive(interface, write_packet((9, 4, 1, 64, (), (3, 1), (1, 2)))), ("dropped", "book"))
        self.assertEqual(gate.counts(), [(5, 2)])


class Methods(unittest.TestCase):
    def gate(self):
        gate = Gate(ALL, ())
        gate.receive(0, write_packet(stream(9, 4)))
        gate.receive(0, write_packet(asking(9, 4)))
        return gate

    def test_forget(self):
        gate = self.gate()
        self.assertIsNone(gate.forget((6, (4, 80), (9, 7))))
        self.assertEqual(gate.talks(), [((17, (4, 80), (9, 7)), -1)])
        gate.receive(0, write_packet(stream(9, 4)))
        self.assertEqual(gate.talks(), [((6, (4, 80), (9, 7)), -1), ((17, (4, 80), (9, 7)), -1)])

    def test_forget_without_a_talk(self):
        gate = self.gate()
        before = snapshot(gate)
        for key in [(6, (4, 80), (9, 8)), (17, (4, 7), (9, 80)), (6, (1, 1), (2, 2))]:
            with self.assertRaises(NoTalk):
                gate.forget(key)
        self.assertEqual(snapshot(gate), before)
        gate.forget((6, (4, 80), (9, 7)))
        with self.assertRaises(NoTalk):
            gate.forget((6, (4, 80), (9, 7)))

    def test_set_book(self):
        gate = Gate(COUNTING, EXCHANGE)
        gate.receive(0, write_packet(stream(9, 4)))
        talks, counts, _, _ = snapshot(gate)
        self.assertIsNone(gate.set_book(B))
        self.assertEqual(snapshot(gate), (talks, counts, B, EXCHANGE))
        for value in odd_values() + [list(B), (B,)]:
            with self.assertRaises(BadBook):
                gate.set_book(value)
            self.assertEqual(snapshot(gate), (talks, counts, B, EXCHANGE))

    def test_returned_lists(self):
        gate = Gate(COUNTING, ())
        gate.receive(0, write_packet(stream(9, 4)))
        before = snapshot(gate)
        gate.talks().clear()
        gate.talks().append(3)
        gate.counts().clear()
        gate.counts().append((0, 0))
        self.assertEqual(snapshot(gate), before)
        self.assertIsNot(gate.talks(), gate.talks())

    def test_gates_do_not_share(self):
        one, other = Gate(ALL, ()), Gate(ALL, ())
        one.receive(0, write_packet(stream(9, 4)))
        self.assertEqual(other.talks(), [])

    def test_kinds_of_values(self):
        gate = self.gate()
        for row in (write_packet(stream(9, 4)), (), write_packet((9, 4, 1, 64, (), (3, 1), ()))):
            result = gate.receive(0, row)
            self.assertIs(type(result), tuple)
            if result[0] != "dropped":
                self.assertIs(type(result[2]), tuple)
        self.assertIs(type(gate.talks()), list)
        self.assertIs(type(gate.talks()[0]), tuple)
        self.assertIs(type(gate.counts()), list)


def swapped(address):
    """What EXCHANGE puts in the place of an address."""
    if 256 <= address < 768:
        return address + 256 if address < 512 else address - 256
    return address


class Model:
    """What the gate promises, done another way."""

    def __init__(self, book):
        self.book, self.talks, self.counts = book, {}, {}

    def receive(self, interface, packet):
        source, destination, kind, ttl, options, inner, payload = packet
        if ttl == 1:
            return ("dropped", "worn")
        if interface == 1:
            destination = swapped(destination)
        if source == destination:
            return ("dropped", "mirror")
        seen = (source, destination, kind, ttl, options, inner, payload)
        sight = sight_of(interface, seen)
        key = plain_key(sight)
        code, side, then = plain_look(self.talks.get(key, NO_TALK), sight)
        decision, _, noted, _ = plain_walk(self.book, sight + (code, side))
        for number in noted:
            self.counts[number] = self.counts.get(number, 0) + 1
        if decision == ACCEPT:
            if key:
                self.talks[key] = then
            out = swapped(source) if interface == 0 else source
            return ("out", 1 - interface, write_packet((out, destination, kind, ttl - 1, options, inner, payload)))
        if decision == DROP or kind == 1:
            return ("dropped", "book")
        teller = swapped(destination) if interface == 1 else destination
        rest = write_packet(seen)[12 + len(options):][:8]
        return ("back", interface, write_packet((teller, source, 1, 64, (), (3, decision[1]), rest)))

    def told(self):
        talks = [(key, signed(key, self.talks[key])) for key in sorted(self.talks)]
        return [pair for pair in talks if pair[1]], sorted(self.counts.items())


class ByChance(unittest.TestCase):
    def test_against_another_gate(self):
        source = random.Random(122)
        words = {}
        for _ in range(150):
            fields = small_fields(source)
            book = source.choice((living_book, late_book))(source, fields)
            gate, model = Gate(book, EXCHANGE), Model(book)
            for sight in random_history(source, (book, only(("source", ((300, 400), (556, 600))))), 25):
                packet = packet_of(sight)
                packet = packet[:3] + (source.choice((1, 2, 64)),) + packet[4:]
                result = gate.receive(sight[0], write_packet(packet))
                self.assertEqual(result, model.receive(sight[0], packet))
                self.assertEqual((gate.talks(), gate.counts()), model.told())
                words[result[:2]] = words.get(result[:2], 0) + 1
        self.assertGreater(min(words[word] for word in [("out", 0), ("out", 1), ("back", 0), ("back", 1)]), 20, words)


if __name__ == "__main__":
    unittest.main()
