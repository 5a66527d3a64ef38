"""Points 18.1 to 18.4: journals."""

import random
import unittest

from gatewarden.errors import Malformed, NoPlace, NoTalk
from gatewarden.gate import Gate
from gatewarden.journals import blame, first_wrong, is_journal, recorded, shortened
from gatewarden.packets import read_packet, write_packet
from gatewarden.prefixes import exchanged
from gatewarden.talks import key_of
from gatewarden.views import packet_of, sight_of
from tests.bookhelp import B, plain_walk
from tests.helpers import Trap, nested, odd_values, resized, spoilt
from tests.historyhelp import (
    ACCEPT, ALL, DROP, KEEPER, NO_TALK, NOTHING, living_book, plain_key, plain_look, random_history, small_fields,
)
from tests.test_gate import EXCHANGE, asking, stream

ROW = write_packet(asking(9, 4))
KEY = (17, (4, 80), (9, 7))
COUNTING = (("main", (((), ("count", 4)), ((("talk", ((2, 5),)),), ACCEPT), ((("interface", ((0, 0),)), ("talk", ((1, 1),))), ACCEPT)), DROP),)


def journal_of(*deeds, book=KEEPER, exchange=EXCHANGE):
    return recorded(book, exchange, list(deeds))


def sample():
    """A true journal with entries of all kinds and results of all forms."""
    return journal_of(
        ("in", 0, ROW), ("in", 1, write_packet(asking(4, 9, 80, 7))), ("in", 1, write_packet(stream(4, 9))), ("in", 0, ()), ("book", B),
        ("in", 0, write_packet(stream(9, 4, dport=81))), ("forget", KEY), ("in", 0, write_packet(asking(300, 4))))


def plain_seen(exchange, interface, row):
    """The sight of a packet that comes to the book, or None."""
    try:
        packet = read_packet(row)
    except Malformed:
        return None
    if interface == 1:
        packet = packet[:1] + (exchanged(exchange, packet[1]),) + packet[2:]
    if packet[3] == 1 or packet[0] == packet[1]:
        return None
    return sight_of(interface, packet)


def random_deeds(source, fields, books, exchange):
    """Deeds of all kinds, with packets that do not come to the book among them."""
    deeds, keys = [], []
    for sight in random_history(source, books, 25):
        packet = packet_of(sight)
        if sight[0] == 1:
            packet = packet[:1] + (exchanged(exchange, packet[1]),) + packet[2:]
        chance = source.random()
        if chance < 0.06:
            packet = packet[:3] + (1,) + packet[4:]
        elif chance < 0.1:
            packet = (packet[1],) + packet[1:] if sight[0] == 0 else (exchanged(exchange, packet[1]),) + packet[1:]
        row = write_packet(packet)
        if 0.1 <= chance < 0.15:
            row = row[:-1]
        deeds.append(("in", sight[0], row))
        if key_of(sight):
            keys.append(key_of(sight))
        if keys and source.random() < 0.15:
            deeds.append(("forget", source.choice(keys)))
        if source.random() < 0.1:
            deeds.append(("book", source.choice(books)))
    return deeds, keys


class IsJournal(unittest.TestCase):
    def test_forms(self):
        journal = sample()
        self.assertEqual([entry[0] for entry in journal[2]], ["in"] * 4 + ["book", "in", "forget", "in"])
        self.assertEqual({entry[3][0] for entry in journal[2] if entry[0] == "in"}, {"out", "dropped", "back"})
        self.assertIs(is_journal(journal), True)
        self.assertIs(is_journal((B, (), ())), True)
        self.assertIs(is_journal((B, EXCHANGE, ())), True)

    def entry(self, entry, wanted):
        self.assertIs(is_journal((KEEPER, (), (entry,))), wanted, entry)
        self.assertIs(is_journal((KEEPER, (), (("book", B), entry, ("book", B)))), wanted, entry)

    def test_results(self):
        for result, wanted in [
            (("out", 0, ()), True), (("out", 1, ROW), True), (("back", 0, (0, 255)), True), (("back", 1, ()), True), (("dropped", "book"), True),
            (("dropped", ""), True), (("dropped", "anything"), True), (("out", 2, ()), False), (("out", -1, ()), False), (("out", True, ()), False),
            (("out", 0, [1]), False), (("out", 0, (256,)), False), (("out", 0, (-1,)), False), (("out", 0, (True,)), False), (("out", 0), False),
            (("out", 0, (), ()), False), (("Out", 0, ()), False), (("out",), False), ((), False), (("dropped",), False), (("dropped", 0), False),
            (("dropped", None), False), (("dropped", b"book"), False), (("dropped", "book", "book"), False), (("dropped", 0, ()), False), (("out", "book"), False),
            (["out", 0, ()], False), ("out", False), (None, False), (("back", 0, b""), False), (("dropped", ("book",)), False), (Trap(), False),
            (("dropped", Trap()), False), (("out", Trap(), ()), False), (("out", 0, Trap()), False), (("out", 0, (Trap(),)), False),
        ]:
            self.entry(("in", 0, ROW, result), wanted)

    def test_packets(self):
        good = ("dropped", "short")
        for interface, row, wanted in [(0, (), True), (1, (), True), (2, (), False), (-1, (), False), (True, (), False), (False, (), False), (0.0, (), False),
                                       (None, (), False), (0, (1, 2), True), (0, (0,) * 3000, True), (0, [1], False), (0, (256,), False), (0, (1.0,), False),
                                       (0, (False,), False), (0, b"a", False), (0, None, False), ("0", (), False)]:
            self.entry(("in", interface, row, good), wanted)
        self.entry(("in", 0, ()), False)
        self.entry(("in", 0, (), good, good), False)
        self.entry(("In", 0, (), good), False)
        self.entry(["in", 0, (), good], False)

    def test_keys(self):
        for key, wanted in [
            (KEY, True), ((6, (4, 80), (9, 7)), True), ((6, (0, 0), (65535, 65535)), True), ((6, (4, 65535), (9, 0)), True), ((6, (4, 65536), (9, 0)), False),
            ((6, (4, -1), (9, 0)), False), ((6, (-1, 0), (9, 0)), False), ((6, (4, 0), (65536, 0)), False), ((6, (9, 7), (4, 80)), False),
            ((6, (4, 7), (4, 80)), False), ((6, (4, 80), (4, 80)), False), ((6, (4, 80), (4, 7)), False), ((1, (4, 0), (9, 0)), False), ((0, (4, 0), (9, 0)), False),
            ((200, (4, 0), (9, 0)), False), ((True, (4, 0), (9, 0)), False), ((6.0, (4, 80), (9, 7)), False), ((6, (4, True), (9, 7)), False),
            ((6, [4, 80], (9, 7)), False), ([6, (4, 80), (9, 7)], False), ((6, (4, 80)), False), ((6, (4, 80), (9, 7), ()), False), ((6, (4,), (9, 7)), False),
            ((6, (4, 80, 0), (9, 7)), False), ((6, 4, 9), False), (None, False), ((), False), ((Trap(), (4, 80), (9, 7)), False), ((6, Trap(), (9, 7)), False),
            ((6, (4, 80), (Trap(), 7)), False), (("6", (4, 80), (9, 7)), False),
        ]:
            self.entry(("forget", key), wanted)
        self.entry(("forget",), False)
        self.entry(("forget", KEY, KEY), False)
        self.entry(("Forget", KEY), False)

    def test_books(self):
        for book in odd_values() + [[B], list(B), (B,)]:
            self.entry(("book", book), False)
            self.assertIs(is_journal((book, (), ())), False)
        for exchange in odd_values() + [[], list(EXCHANGE), EXCHANGE + EXCHANGE]:
            self.assertIs(is_journal((B, exchange, ())), False)
        self.entry(("book", B), True)
        self.entry(("book", B, B), False)
        self.entry(("book",), False)

    def test_any_value(self):
        journal = sample()
        for value in odd_values():
            self.assertIs(is_journal(value), False)
            self.assertIs(is_journal((B, (), value)), False)
            self.entry(value, False)
        short = (ALL, EXCHANGE, journal[2][2:4] + (("forget", KEY), ("book", NOTHING)))
        self.assertIs(is_journal(short), True)
        for value in spoilt(short):
            self.assertIs(is_journal(value), False, value)
        for value in resized(short):
            self.assertIs(is_journal(value), False)
        for k, entry in enumerate(journal[2]):
            for value in resized(entry):
                self.assertIs(is_journal(journal[:2] + (journal[2][:k] + (value,) + journal[2][k + 1:],)), False, value)
        self.assertIs(is_journal(nested(journal, 150)), False)


class Recorded(unittest.TestCase):
    def test_true_journals(self):
        journal = sample()
        self.assertEqual(journal[:2], (KEEPER, EXCHANGE))
        self.assertIsNone(first_wrong(journal))
        self.assertIsNone(first_wrong((B, (), ())))
        results = [entry[3][:2] for entry in journal[2] if entry[0] == "in"]
        self.assertEqual(results, [("out", 1), ("out", 0), ("dropped", "book"), ("dropped", "short"), ("back", 0), ("out", 1)])

    def test_deeds_that_raise_are_left_out(self):
        other = (6, (4, 80), (9, 7))
        found = journal_of(("forget", KEY), ("in", 0, ROW), ("forget", other), ("forget", KEY), ("forget", KEY), ("book", ("main", (), DROP)), ("book", ALL))
        self.assertEqual([entry[0] for entry in found[2]], ["in", "forget", "book"])
        self.assertIsNone(first_wrong(found))

    def test_lists_of_the_caller(self):
        deeds = [("in", 0, ROW), ("forget", KEY)]
        found = recorded(KEEPER, (), deeds)
        self.assertEqual(deeds, [("in", 0, ROW), ("forget", KEY)])
        deeds.append(("book", B))
        self.assertEqual(len(found[2]), 2)
        self.assertIs(type(found[2]), tuple)
        self.assertEqual(recorded(KEEPER, (), []), (KEEPER, (), ()))

    def test_by_chance(self):
        source = random.Random(401)
        for _ in range(60):
            fields = small_fields(source)
            books = [living_book(source, fields), KEEPER, COUNTING]
            deeds, _ = random_deeds(source, fields, books, EXCHANGE)
            journal = recorded(books[0], EXCHANGE, deeds)
            self.assertIs(is_journal(journal), True)
            self.assertIsNone(first_wrong(journal))
            gate = Gate(books[0], EXCHANGE)
            wanted = []
            for deed in deeds:
                if deed[0] == "in":
                    wanted.append(deed + (gate.receive(*deed[1:]),))
                    continue
                try:
                    gate.forget(deed[1]) if deed[0] == "forget" else gate.set_book(deed[1])
                except NoTalk:
                    continue
                wanted.append(deed)
            self.assertEqual(journal[2], tuple(wanted))


class FirstWrong(unittest.TestCase):
    def changed(self, journal, k, entry):
        return journal[:2] + (journal[2][:k] + (entry,) + journal[2][k + 1:],)

    def test_results(self):
        journal = sample()
        for k, entry in enumerate(journal[2]):
            if entry[0] != "in":
                continue
            result = entry[3]
            others = [("dropped", "other"), ("out", 0, ()), ("back", 1, ROW)]
            if result[0] != "dropped":
                others += [(result[0], 1 - result[1], result[2]), (result[0], result[1], result[2][:-1]),
                           ({"out": "back", "back": "out"}[result[0]],) + result[1:], (result[0], result[1], result[2][:-1] + (result[2][-1] ^ 1,))]
            for other in others:
                changed = self.changed(journal, k, entry[:3] + (other,))
                self.assertIs(is_journal(changed), True)
                self.assertEqual(first_wrong(changed), k)

    def test_rows_and_interfaces(self):
        journal = sample()
        self.assertEqual(first_wrong(self.changed(journal, 0, ("in", 1) + journal[2][0][2:])), 0)
        self.assertEqual(first_wrong(self.changed(journal, 1, ("in", 0) + journal[2][1][2:])), 1)
        # The packet that was malformed at both interfaces is so at the other one.
        self.assertIsNone(first_wrong(self.changed(journal, 3, ("in", 1) + journal[2][3][2:])))
        row = journal[2][0][2]
        self.assertEqual(first_wrong(self.changed(journal, 0, ("in", 0, row[:-1], journal[2][0][3]))), 0)

    def test_forgets(self):
        journal = sample()
        for key in [(6, (4, 80), (9, 7)), (17, (4, 80), (9, 8)), (17, (4, 80), (300, 7))]:
            self.assertEqual(first_wrong(self.changed(journal, 6, ("forget", key))), 6)
        twice = journal[:2] + (journal[2][:7] + (("forget", KEY),) + journal[2][7:],)
        self.assertEqual(first_wrong(twice), 7)
        early = journal[:2] + ((("forget", KEY),) + journal[2],)
        self.assertEqual(first_wrong(early), 0)

    def test_left_out_doubled_moved(self):
        journal = sample()

        def without(*numbers):
            return journal[:2] + (tuple(entry for k, entry in enumerate(journal[2]) if k not in numbers),)

        # Without the packet that opens the talk, its answer is dropped.
        self.assertEqual(first_wrong(without(0)), 0)
        # An asking answered once or not at all is forgotten all the same.
        self.assertIsNone(first_wrong(without(1)))
        self.assertIsNone(first_wrong(without(2, 3)))
        # Without the other book the stream with the port 81 opens a talk.
        self.assertEqual(first_wrong(without(4)), 4)
        self.assertIsNone(first_wrong(without(6)))
        self.assertEqual(first_wrong(without(0, 1)), 4)
        swapped = journal[:2] + (journal[2][1::-1] + journal[2][2:],)
        self.assertEqual(first_wrong(swapped), 0)

    def test_another_book_or_exchange(self):
        journal = sample()
        self.assertEqual(first_wrong((NOTHING,) + journal[1:]), 0)
        self.assertEqual(first_wrong((ALL,) + journal[1:]), 2)
        self.assertEqual(first_wrong((KEEPER, (), journal[2])), 7)

    def test_by_chance(self):
        source = random.Random(402)
        answers = {}
        for _ in range(150):
            fields = small_fields(source)
            books = [living_book(source, fields), KEEPER, B]
            deeds, keys = random_deeds(source, fields, books, EXCHANGE)
            entries = list(recorded(books[0], EXCHANGE, deeds)[2])
            if len(entries) < 3:
                continue
            k, other = source.randrange(len(entries)), source.randrange(len(entries))
            changed = source.choice([
                entries[:k] + entries[k + 1:], entries[:k] + [entries[k]] + entries[k:], entries[:k] + [entries[other]] + entries[k + 1:],
                entries[:k] + entries[k:k + 2][::-1] + entries[k + 2:]])
            journal = (books[0], EXCHANGE, tuple(changed))
            wanted = plain_first_wrong(journal)
            self.assertEqual(first_wrong(journal), wanted)
            answers[wanted is None] = answers.get(wanted is None, 0) + 1
        self.assertGreater(min(answers.values()), 15, answers)


def plain_first_wrong(journal):
    """The first wrong entry, found by making the journal of ever more deeds."""
    book, exchange, entries = journal
    for k in range(len(entries)):
        deeds = [entry[:3] if entry[0] == "in" else entry for entry in entries[:k + 1]]
        if recorded(book, exchange, deeds)[2] != entries[:k + 1]:
            return k
    return None


class Shortened(unittest.TestCase):
    def test_one_key(self):
        journal = sample()
        found = shortened(journal, KEY)
        self.assertEqual(found, journal[:2] + (tuple(journal[2][k] for k in (0, 1, 4, 6)),))
        self.assertIsNone(first_wrong(found))
        # The inner address 300 stands for 556 outside; the key has it as seen inside.
        self.assertEqual(shortened(journal, (17, (4, 80), (300, 7)))[2], (journal[2][4], journal[2][7]))
        self.assertEqual(shortened(journal, (17, (4, 80), (556, 7)))[2], (journal[2][4],))
        self.assertEqual(shortened(journal, (6, (4, 81), (9, 7)))[2], (journal[2][4], journal[2][5]))
        self.assertEqual(shortened(journal, (6, (4, 7), (9, 80)))[2], (journal[2][2], journal[2][4]))
        self.assertEqual(shortened((B, (), ()), KEY), (B, (), ()))

    def test_packets_that_do_not_come_to_the_book(self):
        inner, outer = (17, (4, 80), (300, 7)), (17, (4, 80), (556, 7))
        worn = write_packet(asking(300, 4, ttl=1))
        mirror = write_packet(asking(300, 556, 7, 7))
        note = write_packet((300, 4, 1, 64, (), (3, 1), ()))
        journal = journal_of(
            ("in", 0, write_packet(asking(300, 4))), ("in", 0, worn), ("in", 1, mirror), ("in", 0, note), ("in", 0, worn[:-1]),
            ("in", 1, write_packet(asking(4, 556, 80, 7))), ("in", 1, write_packet(asking(4, 300, 80, 7))), book=ALL)
        self.assertEqual([entry[3][1] for entry in journal[2]], [1, "worn", "mirror", 1, "length", 0, 0])
        self.assertEqual(shortened(journal, inner)[2], (journal[2][0], journal[2][5]))
        self.assertEqual(shortened(journal, outer)[2], (journal[2][6],))

    def test_results_stay(self):
        source = random.Random(403)
        lengths = []
        for _ in range(80):
            fields = small_fields(source)
            books = [living_book(source, fields), KEEPER, COUNTING]
            deeds, keys = random_deeds(source, fields, books, EXCHANGE)
            journal = recorded(books[0], EXCHANGE, deeds)
            for key in sorted(set(keys)):
                found = shortened(journal, key)
                wanted = []
                for entry in journal[2]:
                    if entry[0] == "in":
                        sight = plain_seen(EXCHANGE, *entry[1:3])
                        if sight is not None and plain_key(sight) == key:
                            wanted.append(entry)
                    elif entry[0] == "book" or entry[1] == key:
                        wanted.append(entry)
                self.assertEqual(found, journal[:2] + (tuple(wanted),))
                self.assertIsNone(first_wrong(found))
                lengths.append(len(found[2]))
        self.assertGreater(max(lengths), 5)


class Blame(unittest.TestCase):
    def test_each_number(self):
        journal = sample()
        for number, wanted in enumerate([((0, 1),), ((0, 0),), (), None, None, ((0, 1),), None, None]):
            if number == 7:
                wanted = ((0, 1), (1, 0))
            if wanted is None:
                with self.assertRaises(NoPlace):
                    blame(journal, number)
            else:
                self.assertEqual(blame(journal, number), wanted)
                self.assertIs(type(blame(journal, number)), tuple)

    def test_numbers_beyond(self):
        journal = sample()
        for number in (-1, -2, -8, -9, 8, 9, 1000):
            with self.assertRaises(NoPlace):
                blame(journal, number)
        with self.assertRaises(NoPlace):
            blame((B, (), ()), 0)

    def test_packets_that_did_not_come_to_the_book(self):
        journal = journal_of(
            ("in", 0, write_packet(asking(9, 4, ttl=1))), ("in", 0, write_packet(asking(9, 9))), ("in", 1, write_packet(asking(300, 556))), ("in", 0, ROW[:-1]),
            ("in", 0, ROW), ("in", 0, write_packet(asking(300, 556))), book=COUNTING)
        for number in range(4):
            with self.assertRaises(NoPlace):
                blame(journal, number)
        self.assertEqual(blame(journal, 4), ((0, 0), (0, 2)))
        self.assertEqual(blame(journal, 5), ((0, 0), (0, 2)))

    def test_by_chance(self):
        source = random.Random(404)
        told = 0
        for _ in range(60):
            fields = small_fields(source)
            books = [living_book(source, fields), KEEPER, B]
            deeds, _ = random_deeds(source, fields, books, EXCHANGE)
            journal = recorded(books[0], EXCHANGE, deeds)
            book, talks = books[0], {}
            for number, entry in enumerate(journal[2]):
                sight = plain_seen(EXCHANGE, *entry[1:3]) if entry[0] == "in" else None
                if entry[0] == "book":
                    book = entry[1]
                elif entry[0] == "forget":
                    del talks[entry[1]]
                if sight is None:
                    with self.assertRaises(NoPlace):
                        blame(journal, number)
                    continue
                key = plain_key(sight)
                code, side, after = plain_look(talks.get(key, NO_TALK), sight)
                decision, _, _, met = plain_walk(book, sight + (code, side))
                self.assertEqual(blame(journal, number), met)
                told += 1
                if key and decision == ACCEPT:
                    talks[key] = after
        self.assertGreater(told, 300)


if __name__ == "__main__":
    unittest.main()
