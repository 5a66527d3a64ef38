"""Points 3.1, 3.2, 3.7, and the names and tops of point 3.6."""

import random
import unittest

from gatewarden import views
from gatewarden.packets import is_packet, length_of
from gatewarden.views import is_history, is_sight, packet_of, sight_of
from tests.helpers import nested, odd_values, resized, spoilt

LEAST = {6: 20, 17: 18, 1: 16}
KINDS = (0, 1, 2, 5, 6, 7, 16, 17, 18, 255)


def random_sight(source):
    kind = source.choice((6, 17, 1, 0, 200))
    ports = [source.choice((0, 65535, source.randrange(65536))) if kind in (6, 17) else 0 for _ in range(2)]
    ends = source.sample((0, 1, 9, 65535, source.randrange(10, 60000)), 2)
    flags = source.randrange(8) if kind == 6 else 0
    code = source.choice((0, 255, 256, 65535, source.randrange(65536))) if kind == 1 else 0
    low = LEAST.get(kind, 12)
    length = source.choice((low, low + 1, 1499, 1500, source.randint(low, 1500)))
    return (source.randrange(2), kind, ends[0], ports[0], ends[1], ports[1], flags, code, length)


class Names(unittest.TestCase):
    def test_fields_and_tops(self):
        self.assertEqual(views.FIELDS, [
            "interface", "kind", "source", "sport", "destination", "dport", "flags", "code", "length", "talk", "side",
        ])
        self.assertEqual(views.TOPS, [1, 255, 65535, 65535, 65535, 65535, 7, 65535, 1500, 6, 1])
        self.assertIs(type(views.FIELDS), list)
        self.assertIs(type(views.TOPS), list)


class IsSight(unittest.TestCase):
    def test_lengths(self):
        for kind in KINDS:
            least = LEAST.get(kind, 12)
            for length, right in [(least, True), (least - 1, False), (1500, True), (1501, False), (0, False)]:
                self.assertIs(is_sight((0, kind, 9, 0, 4, 0, 0, 0, length)), right, (kind, length))

    def test_ports_flags_and_codes_of_kinds(self):
        for kind in KINDS:
            for at, owners in [(3, (6, 17)), (5, (6, 17)), (6, (6,)), (7, (1,))]:
                sight = [1, kind, 9, 0, 4, 0, 0, 0, 100]
                for number in (1, 7):
                    sight[at] = number
                    self.assertIs(is_sight(tuple(sight)), kind in owners, sight)

    def test_ends_of_the_ranges(self):
        good = {6: (0, 6, 9, 7, 4, 80, 1, 0, 20), 1: (1, 1, 9, 0, 4, 0, 0, 77, 16)}
        for kind, at, top in [(6, 0, 1), (6, 2, 65535), (6, 3, 65535), (6, 4, 65535), (6, 5, 65535), (6, 6, 7),
                              (6, 8, 1500), (1, 7, 65535)]:
            for number, right in [(top, True), (top + 1, False), (-1, False)]:
                value = good[kind][:at] + (number,) + good[kind][at + 1:]
                self.assertIs(is_sight(value), right, value)
        for kind, right in [(0, True), (255, True), (256, False), (-1, False)]:
            self.assertIs(is_sight((0, kind, 9, 0, 4, 0, 0, 0, 30)), right)

    def test_equal_addresses(self):
        self.assertIs(is_sight((0, 6, 9, 7, 9, 80, 1, 0, 20)), False)
        self.assertIs(is_sight((0, 200, 0, 0, 0, 0, 0, 0, 20)), False)
        self.assertIs(is_sight((0, 6, 9, 7, 4, 7, 1, 0, 20)), True)

    def test_any_value(self):
        for value in odd_values():
            self.assertIs(is_sight(value), False)
        for good in [(1, 6, 1, 1, 0, 1, 1, 0, 20), (0, 1, 1, 0, 0, 0, 0, 1, 16), (0, 0, 1, 0, 0, 0, 0, 0, 12)]:
            self.assertIs(is_sight(good), True)
            for value in list(spoilt(good)) + list(resized(good)):
                self.assertIs(is_sight(value), False, value)


class SightsAndPackets(unittest.TestCase):
    def test_sight_of(self):
        self.assertEqual(sight_of(0, (9, 4, 6, 64, (1, 2), (7, 80, 5), (1,))), (0, 6, 9, 7, 4, 80, 5, 0, 23))
        self.assertEqual(sight_of(1, (9, 4, 17, 1, (), (7, 80), ())), (1, 17, 9, 7, 4, 80, 0, 0, 18))
        self.assertEqual(sight_of(1, (9, 4, 1, 64, (), (3, 255), (5,))), (1, 1, 9, 0, 4, 0, 0, 1023, 17))
        self.assertEqual(sight_of(0, (9, 4, 200, 64, (), (), (5,))), (0, 200, 9, 0, 4, 0, 0, 0, 13))

    def test_packet_of(self):
        self.assertEqual(packet_of((0, 6, 9, 7, 4, 80, 5, 0, 23)), (9, 4, 6, 64, (), (7, 80, 5), (0, 0, 0)))
        self.assertEqual(packet_of((1, 17, 9, 7, 4, 80, 0, 0, 18)), (9, 4, 17, 64, (), (7, 80), ()))
        self.assertEqual(packet_of((1, 1, 9, 0, 4, 0, 0, 1023, 17)), (9, 4, 1, 64, (), (3, 255), (0,)))
        self.assertEqual(packet_of((0, 200, 9, 0, 4, 0, 0, 0, 13)), (9, 4, 200, 64, (), (), (0,)))

    def test_sight_of_the_packet_of_a_sight(self):
        source = random.Random(51)
        for _ in range(600):
            sight = random_sight(source)
            self.assertIs(is_sight(sight), True, sight)
            packet = packet_of(sight)
            self.assertIs(is_packet(packet), True)
            self.assertEqual(length_of(packet), sight[8])
            self.assertEqual((packet[3], packet[4]), (64, ()))
            self.assertEqual(set(packet[6]) - {0}, set())
            self.assertEqual(sight_of(sight[0], packet), sight)

    def test_both_bounds_of_the_lengths(self):
        for kind in KINDS:
            for length in (LEAST.get(kind, 12), 1500):
                sight = (1, kind, 9, 0, 4, 0, 0, 0, length)
                self.assertEqual(sight_of(1, packet_of(sight)), sight)


class Histories(unittest.TestCase):
    def test_histories(self):
        one, other = (0, 6, 9, 7, 4, 80, 1, 0, 20), (1, 0, 1, 0, 0, 0, 0, 0, 12)
        for value in [(), (one,), (one, other), (one, one, other) * 20]:
            self.assertIs(is_history(value), True)
        for value in [one, [one], (one, other[:-1]), (one, list(other)), (one, None), ((),), (one, (other,))]:
            self.assertIs(is_history(value), False)

    def test_any_value(self):
        for value in odd_values():
            self.assertIs(is_history(value), False)
        for value in spoilt(((0, 6, 1, 1, 0, 1, 1, 0, 20), (1, 0, 1, 0, 0, 0, 0, 0, 12))):
            self.assertIs(is_history(value), False, value)
        self.assertIs(is_history(nested((0, 6, 9, 7, 4, 80, 1, 0, 20), 150)), False)


if __name__ == "__main__":
    unittest.main()
