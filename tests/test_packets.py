"""Points 2.2 to 2.4: packets and their bytes."""

import itertools
import random
import unittest

from gatewarden.errors import Malformed
from gatewarden.packets import is_packet, length_of, read_packet, write_packet
from gatewarden.sums import folded, sum_of
from tests.helpers import nested, odd_values, resized, spoilt

INNERS = {6: (1025, 80, 5), 17: (53, 65535), 1: (8, 255), 200: (), 0: (), 255: ()}
SUM_AT = {6: 6, 17: 4, 1: 2}
HEADS = {6: 8, 17: 6, 1: 4}
REASONS = ["short", "version", "length", "header", "sum", "zero", "ttl", "inner", "flags", "inner sum"]


def sample_packets():
    """Packets of all kinds of inner heads, options and payloads."""
    for kind, inner in INNERS.items():
        for options in ((), (1, 2), (0,) * 4, (255,) * 6, (1, 2, 3, 4, 5, 6, 7, 8)):
            for payload in ((), (7,), (1, 2), (0, 0, 255), (9,) * 40):
                yield (9, 65535, kind, 64, options, inner, payload)


def random_packet(source):
    kind = source.choice((6, 17, 1, 0, 5, 7, 255))
    tops = {6: (65535, 65535, 7), 17: (65535, 65535), 1: (255, 255)}.get(kind, ())
    inner = tuple(source.choice((0, top, source.randint(0, top))) for top in tops)
    options = tuple(source.randrange(256) for _ in range(2 * source.randrange(5)))
    payload = tuple(source.choice((0, 255, source.randrange(256))) for _ in range(source.randrange(12)))
    ends = [source.choice((0, 65535, source.randrange(65536))) for _ in range(2)]
    return (*ends, kind, source.randint(1, 255), options, inner, payload)


def two(number):
    return [number >> 8, number & 255]


def plain_bytes(packet):
    """The bytes of a packet, written down from point 2.3."""
    source, destination, kind, ttl, options, inner, payload = packet
    head = {6: 8, 17: 6, 1: 4}.get(kind, 0)
    length = 12 + len(options) + head + len(payload)
    outer = [64 + 6 + len(options) // 2, kind] + two(length) + [ttl, 0, 0, 0] + two(source) + two(destination)
    outer += options
    outer[6:8] = two(sum_of(tuple(outer)))
    behind = []
    if kind in (6, 17):
        behind = two(inner[0]) + two(inner[1])
    if kind == 6:
        behind += [inner[2], 0]
    if kind == 1:
        behind = list(inner)
    if kind in HEADS:
        behind += [0, 0]
    behind += payload
    if kind in HEADS:
        row = two(source) + two(destination) + two(kind) + two(len(behind)) + behind
        at = SUM_AT[kind]
        behind[at:at + 2] = two(sum_of(tuple(row)))
    return tuple(outer + behind)


def words(row):
    row = list(row) + [0] * (len(row) % 2)
    return [256 * row[k] + row[k + 1] for k in range(0, len(row), 2)]


def mend_outer(row):
    """A row with the right first sum, in place."""
    end = 2 * (row[0] - 64)
    row[6:8] = [0, 0]
    row[6:8] = two(sum_of(tuple(row[:end])))


def mend_inner(row):
    """A row with the right second sum, in place."""
    end = 2 * (row[0] - 64)
    at = end + SUM_AT[row[1]]
    row[at:at + 2] = [0, 0]
    behind = row[end:]
    row[at:at + 2] = two(sum_of(tuple(row[8:12] + [0, row[1]] + two(len(behind)) + behind)))


def first_reason(row):
    """The first reason that is due for a row, word by word from point 2.4."""
    if len(row) < 12:
        return "short"
    if row[0] not in (70, 71, 72, 73, 74):
        return "version"
    told = 256 * row[2] + row[3]
    if told != len(row) or told > 1500:
        return "length"
    end = 12 + 2 * (row[0] - 70)
    if len(row) < end:
        return "header"
    if folded(words(row[:end])) != 65535:
        return "sum"
    if row[5]:
        return "zero"
    if not row[4]:
        return "ttl"
    behind = row[end:]
    if len(behind) < HEADS.get(row[1], 0):
        return "inner"
    if row[1] == 6 and (behind[4] > 7 or behind[5]):
        return "flags"
    if row[1] in HEADS:
        pseudo = tuple(row[8:12]) + (0, row[1]) + tuple(two(len(behind))) + tuple(behind)
        if folded(words(pseudo)) != 65535:
            return "inner sum"
    return None


class IsPacket(unittest.TestCase):
    def test_packets(self):
        for packet in sample_packets():
            self.assertIs(is_packet(packet), True, packet)

    def test_ends_of_the_ranges(self):
        good = (9, 4, 6, 64, (), (1, 2, 3), (5,))
        for at, low, high in [(0, 0, 65535), (1, 0, 65535), (3, 1, 255)]:
            for number, right in [(low, True), (high, True), (low - 1, False), (high + 1, False)]:
                self.assertIs(is_packet(good[:at] + (number,) + good[at + 1:]), right, (at, number))
        for kind, right in [(0, True), (255, True), (-1, False), (256, False)]:
            self.assertIs(is_packet((9, 4, kind, 64, (), (), ())), right)
        self.assertIs(is_packet((4, 4, 6, 64, (), (1, 2, 3), ())), True)

    def test_inner_heads(self):
        heads = [(), (1,), (1, 2), (1, 2, 3), (1, 2, 3, 4)]
        many = {6: 3, 17: 2, 1: 2}
        for kind in (0, 1, 2, 5, 6, 7, 16, 17, 18, 255):
            for head in heads:
                right = len(head) == many.get(kind, 0)
                self.assertIs(is_packet((9, 4, kind, 64, (), head, ())), right, (kind, head))
        for kind, head in [
            (6, (65536, 0, 0)), (6, (0, 65536, 0)), (6, (0, 0, 8)), (6, (-1, 0, 0)), (6, (0, 0, -1)),
            (17, (65536, 0)), (17, (0, 65536)), (17, (0, -1)), (1, (256, 0)), (1, (0, 256)), (1, (-1, 0)),
        ]:
            self.assertIs(is_packet((9, 4, kind, 64, (), head, ())), False)
        for kind, head in [(6, (65535, 65535, 7)), (6, (0, 0, 0)), (17, (65535, 65535)), (1, (255, 255))]:
            self.assertIs(is_packet((9, 4, kind, 64, (), head, ())), True)

    def test_options(self):
        for many in range(11):
            self.assertIs(is_packet((9, 4, 200, 64, (0,) * many, (), ())), many in (0, 2, 4, 6, 8))
        self.assertIs(is_packet((9, 4, 200, 64, (0, 256), (), ())), False)
        self.assertIs(is_packet((9, 4, 200, 64, (0, -1), (), ())), False)

    def test_lengths(self):
        for kind, inner in INNERS.items():
            for options in ((), (1,) * 8):
                room = 1500 - 12 - len(options) - HEADS.get(kind, 0)
                full = (9, 4, kind, 64, options, inner, (3,) * room)
                self.assertIs(is_packet(full), True)
                self.assertEqual(length_of(full), 1500)
                self.assertIs(is_packet((9, 4, kind, 64, options, inner, (3,) * (room + 1))), False)

    def test_any_value(self):
        for value in odd_values():
            self.assertIs(is_packet(value), False)
        for good in [(1, 0, 6, 1, (0, 1), (1, 0, 1), (0, 1)), (1, 0, 1, 1, (), (0, 1), ()), (1, 0, 0, 1, (), (), ())]:
            for value in spoilt(good):
                self.assertIs(is_packet(value), False, value)
            for value in resized(good):
                self.assertIs(is_packet(value), False, value)
        self.assertIs(is_packet((9, 4, 6, 64, (), nested(1, 190), ())), False)
        self.assertIs(is_packet((9, 4, 6, 64, (), (1, 2, 3), nested((), 190))), False)


class Written(unittest.TestCase):
    def test_example(self):
        packet = (1, 2, 200, 64, (), (), (5,))
        self.assertEqual(write_packet(packet), (70, 200, 0, 13, 64, 0, 121, 39, 0, 1, 0, 2, 5))
        self.assertEqual(length_of((1, 2, 17, 64, (), (7, 9), (5,))), 19)

    def test_lengths(self):
        for packet in sample_packets():
            row = write_packet(packet)
            self.assertEqual(length_of(packet), len(row))
            self.assertEqual(256 * row[2] + row[3], len(row))

    def test_against_the_words(self):
        for packet in sample_packets():
            self.assertEqual(write_packet(packet), plain_bytes(packet))
        source = random.Random(41)
        for _ in range(500):
            packet = random_packet(source)
            self.assertEqual(write_packet(packet), plain_bytes(packet))

    def test_great_packets(self):
        for kind, inner in INNERS.items():
            packet = (256, 258, kind, 255, (), inner, (1, 2, 3, 4) * 72)
            self.assertEqual(write_packet(packet), plain_bytes(packet))


class Read(unittest.TestCase):
    def reason(self, row):
        with self.assertRaises(Malformed) as caught:
            read_packet(tuple(row))
        return caught.exception.reason

    def test_gives_back(self):
        for packet in sample_packets():
            self.assertEqual(read_packet(write_packet(packet)), packet)
        source = random.Random(42)
        for _ in range(500):
            packet = random_packet(source)
            found = read_packet(write_packet(packet))
            self.assertEqual(found, packet)
            self.assertIs(is_packet(found), True)

    def test_greatest_length(self):
        for kind, inner in INNERS.items():
            packet = (9, 4, kind, 64, (1, 2), inner, (5,) * (1486 - HEADS.get(kind, 0)))
            row = write_packet(packet)
            self.assertEqual(len(row), 1500)
            self.assertEqual(read_packet(row), packet)
            longer = list(row) + [0]
            longer[2:4] = two(1501)
            mend_outer(longer)
            self.assertEqual(self.reason(longer), "length")

    def test_short(self):
        row = write_packet((1, 2, 200, 64, (), (), ()))
        for many in range(12):
            self.assertEqual(self.reason(row[:many]), "short")
            self.assertEqual(self.reason((0,) * many), "short")
        self.assertEqual(read_packet(row), (1, 2, 200, 64, (), (), ()))

    def test_version(self):
        for first in list(range(70)) + list(range(75, 256)):
            row = list(write_packet((1, 2, 200, 64, (), (), (1,) * 20)))
            row[0] = first
            if first > 69:
                mend_outer(row)
            self.assertEqual(self.reason(row), "version")

    def test_length(self):
        row = write_packet((1, 2, 17, 64, (), (7, 9), (5, 6)))
        self.assertEqual(self.reason(row + (0,)), "length")
        self.assertEqual(self.reason(row[:-1]), "length")
        self.assertEqual(self.reason(row[:2] + (255, 255) + row[4:]), "length")

    def test_header(self):
        for first in (71, 72, 73, 74):
            for many in range(12, 12 + 2 * (first - 70)):
                row = [first, 200, 0, many, 64, 0, 0, 0, 0, 1, 0, 2] + [0] * (many - 12)
                mend_outer(row)
                self.assertEqual(self.reason(row), "header")

    def test_sum(self):
        for packet in sample_packets():
            row = list(write_packet(packet))
            for at in (6, 7, 9, 11):
                changed = row[:at] + [row[at] ^ 1] + row[at + 1:]
                self.assertEqual(self.reason(changed), "sum")

    def test_zero_and_ttl(self):
        for packet in sample_packets():
            row = list(write_packet(packet))
            changed = row[:5] + [1] + row[6:]
            mend_outer(changed)
            self.assertEqual(self.reason(changed), "zero")
            changed = row[:4] + [0] + row[5:]
            mend_outer(changed)
            self.assertEqual(self.reason(changed), "ttl")

    def test_inner(self):
        for kind, head in HEADS.items():
            for many in range(head):
                row = list(write_packet((1, 2, 200, 64, (3, 4), (), (0,) * many)))
                row[1] = kind
                mend_outer(row)
                self.assertEqual(self.reason(row), "inner")

    def test_flags(self):
        for at, number in [(4, 8), (4, 255), (5, 1), (5, 255)]:
            row = list(write_packet((1, 2, 6, 64, (3, 4), (7, 9, 3), (5,))))
            row[14 + at] = number
            mend_inner(row)
            self.assertEqual(self.reason(row), "flags")
        row[14 + 5] = 0
        row[14 + 4] = 7
        mend_inner(row)
        self.assertEqual(read_packet(tuple(row)), (1, 2, 6, 64, (3, 4), (7, 9, 7), (5,)))

    def test_inner_sum(self):
        for packet in sample_packets():
            row = list(write_packet(packet))
            if packet[2] in HEADS:
                start = 12 + len(packet[4])
                for at in range(start, len(row)):
                    if packet[2] == 6 and at in (start + 4, start + 5):
                        continue
                    changed = row[:at] + [row[at] ^ 4] + row[at + 1:]
                    self.assertEqual(self.reason(changed), "inner sum")

    def test_addresses_count_for_the_inner_sum(self):
        row = list(write_packet((1, 2, 17, 64, (), (7, 9), (5,))))
        row[8:12] = [0, 2, 0, 3]
        mend_outer(row)
        self.assertEqual(self.reason(row), "inner sum")

    def test_several_at_once(self):
        for many in range(1, 8):
            for chosen in itertools.combinations(["version", "length", "sum", "zero", "ttl", "flags", "inner sum"], many):
                row = list(write_packet((1, 2, 6, 64, (3, 4), (7, 9, 3), (5,))))
                if "zero" in chosen:
                    row[5] = 3
                if "ttl" in chosen:
                    row[4] = 0
                if "flags" in chosen:
                    row[18] = 9
                mend_outer(row)
                mend_inner(row)
                if "inner sum" in chosen:
                    row[-1] ^= 1
                if "sum" in chosen:
                    row[7] ^= 1
                if "length" in chosen:
                    row.append(0)
                if "version" in chosen:
                    row[0] = 90
                self.assertEqual(self.reason(row), min(chosen, key=REASONS.index), chosen)
                self.assertEqual(self.reason(row[:11]), "short")

    def test_header_and_inner_beside_others(self):
        for many in range(1, 5):
            for chosen in itertools.combinations(["length", "header", "zero", "ttl"], many):
                row = [72, 17, 0, 12, 64, 0, 0, 0, 0, 1, 0, 2]
                if "header" not in chosen:
                    row += [0] * 10
                    row[3] = 22
                row[4] = 0 if "ttl" in chosen else 64
                row[5] = 1 if "zero" in chosen else 0
                mend_outer(row)
                if "length" in chosen:
                    row[3] = 14
                self.assertEqual(self.reason(row), min(chosen, key=REASONS.index), chosen)
        for many in range(1, 5):
            for chosen in itertools.combinations(["sum", "zero", "ttl", "inner"], many):
                row = list(write_packet((1, 2, 200, 64, (), (), (0,) * 5)))
                row[1] = 6 if "inner" in chosen else 200
                row[4] = 0 if "ttl" in chosen else 64
                row[5] = 1 if "zero" in chosen else 0
                mend_outer(row)
                row[9] ^= 1 if "sum" in chosen else 0
                self.assertEqual(self.reason(row), min(chosen, key=REASONS.index), chosen)

    def test_changed_rows(self):
        source = random.Random(43)
        seen = set()
        for _ in range(6000):
            row = list(write_packet(random_packet(source)))
            for _ in range(source.randrange(4)):
                row[source.randrange(len(row))] = source.choice((0, 1, 6, 17, 70, 72, 74, source.randrange(256)))
            if source.random() < 0.1:
                row = row[:source.randrange(len(row) + 1)]
            if source.random() < 0.5 and len(row) > 255:
                row = row[:255]
            if source.random() < 0.5 and len(row) >= 12:
                row[2:4] = two(len(row))
            if source.random() < 0.7 and len(row) >= 12 and row[0] >= 64:
                mend_outer(row)
            right = first_reason(row)
            seen.add(right)
            if right is None:
                found = read_packet(tuple(row))
                self.assertIs(is_packet(found), True)
            else:
                self.assertEqual(self.reason(row), right)
        self.assertEqual(seen, set(REASONS) | {None})

    def test_sum_65535_is_taken_where_0_is_due(self):
        # The destination is chosen such that the sum of the first part becomes 0.
        base = list(write_packet((1, 0, 200, 64, (), (), ())))
        rest = sum_of(tuple(base[:6] + [0, 0] + base[8:]))
        packet = (1, rest, 200, 64, (), (), ())
        row = write_packet(packet)
        self.assertEqual(row[6:8], (0, 0))
        changed = row[:6] + (255, 255) + row[8:]
        self.assertEqual(read_packet(changed), packet)
        self.assertEqual(write_packet(read_packet(changed)), row)
        # The same for the second sum and the destination's port.
        base = list(write_packet((1, 2, 17, 64, (), (7, 0), ())))
        packet = (1, 2, 17, 64, (), (7, 256 * base[16] + base[17]), ())
        row = write_packet(packet)
        self.assertEqual(row[16:18], (0, 0))
        self.assertEqual(read_packet(row[:16] + (255, 255)), packet)

    def test_row_stays(self):
        row = write_packet((9, 4, 6, 64, (1, 2), (1, 2, 3), (5,)))
        before = tuple(row)
        read_packet(row)
        self.assertEqual(row, before)


if __name__ == "__main__":
    unittest.main()
