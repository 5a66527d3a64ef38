"""Point 10.6: exact counts of sights."""

import itertools
import random
import unittest

from gatewarden.sightcounts import count_first
from gatewarden.talks import view_of
from gatewarden.views import FIELDS, TOPS, is_sight
from tests.bookhelp import B, DECISIONS, plain_walk, random_book, random_fields
from tests.historyhelp import ACCEPT, ALL, DROP, KEEPER, NOTHING, only

# The pairs of different addresses.
PAIRS = 65536 * 65535
PORTS = 65536 * 65536

# The sights of each kind, for both interfaces.
STREAMS = 2 * PAIRS * PORTS * 8 * 1481
ASKINGS = 2 * PAIRS * PORTS * 1483
NOTES = 2 * PAIRS * 65536 * 1485
OTHERS = 2 * PAIRS * 253 * 1489
SIGHTS = STREAMS + ASKINGS + NOTES + OTHERS


def starts(books, field, top, more=()):
    """The parts of the numbers up to a top in which no condition on a field changes."""
    marks = {0, top + 1, *more}
    for book in books:
        for _, rules, _ in book:
            for conditions, _ in rules:
                for name, a in conditions:
                    if name == field:
                        marks |= {number for low, high in a for number in (low, high + 1)}
    marks = sorted(number for number in marks if number <= top + 1)
    return list(zip(marks, marks[1:]))


def by_parts(book, decision):
    """The count, found by one sight for each part in which all are alike."""
    total = 0
    addresses = sorted({number for field in ("source", "destination") for part in starts([book], field, 65535)
                        for number in part})
    parts = list(zip(addresses, addresses[1:]))
    pairs = []
    for (low, high), (start, end) in itertools.product(parts, parts):
        many = (high - low) * (end - start)
        if low == start:
            many -= high - low
        if many:
            pairs.append((low, start if start != low else (low + 1), many))
    for low, high in starts([book], "kind", 255, (1, 2, 6, 7, 17, 18)):
        kind = low
        ports = starts([book], "sport", 65535), starts([book], "dport", 65535)
        if kind not in (6, 17):
            ports = [(0, 1)], [(0, 1)]
        flags = range(8) if kind == 6 else [0]
        codes = starts([book], "code", 65535) if kind == 1 else [(0, 1)]
        least = {6: 20, 17: 18, 1: 16}.get(kind, 12)
        lengths = [part for part in starts([book], "length", 1500, (least,)) if part[0] >= least]
        for interface, (source, destination, pair), sport, dport, flag, code, length in itertools.product(
                (0, 1), pairs, *ports, flags, codes, lengths):
            sight = (interface, kind, source, sport[0], destination, dport[0], flag, code[0], length[0])
            if plain_walk(book, view_of(sight, 0))[0] == decision:
                many = (high - low) * pair
                for start, end in (sport, dport, code, length):
                    many *= end - start
                total += many
    return total


class Counts(unittest.TestCase):
    def test_all_sights(self):
        self.assertEqual(count_first(ALL, ACCEPT), SIGHTS)
        self.assertEqual(count_first(NOTHING, DROP), SIGHTS)
        self.assertEqual(count_first(NOTHING, ACCEPT), 0)
        self.assertEqual(count_first(ALL, ("refuse", 0)), 0)
        self.assertEqual(count_first((("a", (), ("refuse", 7)),), ("refuse", 7)), SIGHTS)
        self.assertEqual(count_first((("a", (), ("refuse", 7)),), ("refuse", 8)), 0)
        self.assertIs(type(count_first(ALL, ACCEPT)), int)

    def test_each_field(self):
        cases = [
            (("interface", ((1, 1),)), SIGHTS // 2),
            (("kind", ((6, 6),)), STREAMS), (("kind", ((17, 17),)), ASKINGS), (("kind", ((1, 1),)), NOTES),
            (("kind", ((1, 6),)), STREAMS + NOTES + OTHERS // 253 * 4),
            (("source", ((9, 9),)), SIGHTS // 65536), (("destination", ((0, 1),)), SIGHTS // 65536 * 2),
            (("sport", ((80, 89),)), (STREAMS + ASKINGS) // 65536 * 10),
            (("dport", ((1, 65535),)), (STREAMS + ASKINGS) // 65536 * 65535),
            (("flags", ((1, 1),)), STREAMS // 8), (("flags", ((1, 7),)), STREAMS // 8 * 7),
            (("flags", ((0, 0),)), SIGHTS - STREAMS // 8 * 7),
            (("code", ((768, 1023),)), NOTES // 256), (("code", ((0, 0),)), SIGHTS - NOTES // 65536 * 65535),
            (("length", ((1500, 1500),)), STREAMS // 1481 + ASKINGS // 1483 + NOTES // 1485 + OTHERS // 1489),
            (("length", ((0, 19),)), ASKINGS // 1483 * 2 + NOTES // 1485 * 4 + OTHERS // 1489 * 8),
            (("talk", ((0, 0),)), NOTES + OTHERS), (("talk", ((1, 1),)), STREAMS // 8 + ASKINGS),
            (("talk", ((2, 5),)), 0), (("talk", ((6, 6),)), STREAMS // 8 * 7),
            (("side", ((0, 0),)), SIGHTS), (("side", ((1, 1),)), 0),
            (("mark", ((0, 0),)), SIGHTS), (("mark", ((1, 255),)), 0),
        ]
        for condition, count in cases:
            self.assertEqual(count_first(only(condition), ACCEPT), count, condition)
            self.assertEqual(count_first(only(condition), DROP), SIGHTS - count, condition)

    def test_lengths_below_the_least(self):
        for kind, least in [(6, 20), (17, 18), (1, 16), (0, 12), (255, 12), (16, 12), (18, 12)]:
            for top in (least - 1, least, least + 2):
                book = only(("kind", ((kind, kind),)), ("length", ((0, top),)))
                every = count_first(only(("kind", ((kind, kind),)), ("length", ((least, least),))), ACCEPT)
                self.assertGreater(every, 0)
                self.assertEqual(count_first(book, ACCEPT), every * max(0, top - least + 1))

    def test_equal_addresses(self):
        self.assertEqual(count_first(only(("source", ((5, 5),)), ("destination", ((5, 5),))), ACCEPT), 0)
        one = count_first(only(("source", ((5, 5),)), ("destination", ((6, 6),))), ACCEPT)
        self.assertEqual(one * PAIRS, SIGHTS)
        for source, destination, pairs in [
            ((5, 6), (5, 6), 2), ((5, 6), (6, 7), 3), ((0, 9), (5, 5), 9), ((0, 65535), (7, 9), 3 * 65535),
            ((0, 9), (10, 19), 100), ((0, 9), (0, 9), 90), ((0, 9), (5, 14), 95), ((65535, 65535), (65535, 65535), 0),
        ]:
            book = only(("source", (source,)), ("destination", (destination,)))
            self.assertEqual(count_first(book, ACCEPT), one * pairs, (source, destination))

    def test_one_by_one(self):
        source = random.Random(181)
        for _ in range(30):
            conditions, ranges = [], []
            for field in FIELDS[1:9]:
                low = {"kind": source.choice((0, 5, 6, 16, 17)), "length": source.randint(10, 20), "code": source.choice((0, 3)),
                       "flags": source.choice((0, 1))}.get(field, source.choice((0, 4)))
                high = low + (1 if field in ("kind", "source", "destination", "flags") else source.randint(0, 1))
                ranges.append(range(low, high + 1))
                conditions.append((field, ((low, high),)))
            book = (("a", ((tuple(conditions[:4]), ("jump", "b")),), DROP), ("b", ((tuple(conditions[4:]), ACCEPT),), DROP))
            found = sum(
                is_sight((interface,) + rest) for interface in (0, 1) for rest in itertools.product(*ranges))
            self.assertEqual(count_first(book, ACCEPT), found)

    def test_by_parts(self):
        source = random.Random(182)
        for _ in range(60):
            book = random_book(source, 6, random_fields(source, 3, 2))
            for decision in DECISIONS:
                self.assertEqual(count_first(book, decision), by_parts(book, decision), book)

    def test_all_decisions_together(self):
        source = random.Random(183)
        for _ in range(60):
            book = random_book(source, 8, random_fields(source, 4, 2))
            self.assertEqual(sum(count_first(book, decision) for decision in DECISIONS), SIGHTS)
        for book in (B, KEEPER):
            self.assertEqual(sum(count_first(book, decision) for decision in DECISIONS), SIGHTS)

    def test_views_at_the_state_0(self):
        self.assertEqual(count_first(KEEPER, ACCEPT), (STREAMS // 8 + ASKINGS) // 2)
        self.assertEqual(count_first(B, ("refuse", 3)), (STREAMS // 8 + ASKINGS) // 2 // 65536 * 65535)
        self.assertEqual(TOPS[FIELDS.index("talk")], 6)


if __name__ == "__main__":
    unittest.main()
