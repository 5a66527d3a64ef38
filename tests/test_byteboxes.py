"""Point 13.1: byte boxes."""

import itertools
import random
import unittest

from gatewarden.byteboxes import is_byte_box, lies_in
from gatewarden.packets import write_packet
from gatewarden.talks import view_of
from gatewarden.views import FIELDS, sight_of
from tests.helpers import Trap, nested, odd_values, resized, spoilt
from tests.test_machine import CLOSED_BEHIND, PACKETS

FIRST, KIND, TTL, LENGTH = ("byte", 0), ("byte", 1), ("byte", 4), ("special", "length")
GREATEST = {("special", "interface"): (0, 1), LENGTH: (12, 1500), ("special", "side"): (0, 1), ("special", "talk"): (0, 6)}
GREATEST.update({("byte", k): (0, 255) for k in [1, *range(8, 1500)]})
GREATEST.update({FIRST: (70, 74), TTL: (2, 255)})


def box(*pairs):
    """A box of some pairs of a place and a range, with its places in order."""
    return tuple(sorted(pairs))


def plain_is_box(value):
    """Point 13.1 word by word, for tuples of pairs of a place and a pair of integers."""
    places = [place for place, _ in value]
    if places != sorted(set(places)) or not all(place in GREATEST for place in places):
        return False
    for place, (low, high) in value:
        least, greatest = GREATEST[place]
        if not least <= low <= high <= greatest:
            return False
    ranges = {**{place: GREATEST[place] for place in (FIRST, KIND, LENGTH)}, **dict(value)}
    (first, last), (low, high) = ranges[FIRST], ranges[KIND]
    inner = [number for word, number in places if word == "byte" and number > 11]
    if first != last or (low != high and any(kind in range(low, high + 1) for kind in (1, 6, 17))):
        return not inner
    closed = [2 * (first - 64) + k for k in CLOSED_BEHIND.get(low, ())] if low == high else []
    return all(number < ranges[LENGTH][0] and number not in closed for number in inner)


class IsByteBox(unittest.TestCase):
    def test_nothing_told(self):
        self.assertIs(is_byte_box(()), True)

    def test_places(self):
        for number in range(-2, 14):
            self.assertIs(is_byte_box(((("byte", number), (71, 74)),)), number in (0, 1, 4, 8, 9, 10, 11), number)
        for name in FIELDS + ["mark", "ttl", "", "Talk"]:
            pair = (12, 12) if name == "length" else (0, 1)
            self.assertIs(is_byte_box(((("special", name), pair),)), name in ("interface", "length", "side", "talk"), name)
        for place in [("Byte", 0), ("", 0), ("byte",), ("byte", 0, 0), ("special",), ("byte", "talk"), ("special", 0), "byte", 0, None,
                      ("byte", True), ("byte", False), ("byte", 0.0), ("byte", None), ["byte", 0], ("inner", 3), (Trap(), 0),
                      ("byte", Trap()), ("special", Trap()), ("byte", 10 ** 30), (b"byte", 0)]:
            self.assertIs(is_byte_box(((place, (71, 74)),)), False)
            self.assertIs(is_byte_box(((place, (0, 1)),)), False)

    def test_greatest_ranges(self):
        for place in [FIRST, KIND, TTL, ("byte", 8), ("byte", 9), ("byte", 10), ("byte", 11), LENGTH, ("special", "talk"),
                      ("special", "interface"), ("special", "side")]:
            least, greatest = GREATEST[place]
            for low in (least - 1, least, least + 1, greatest, greatest + 1):
                for high in (least - 1, least, greatest - 1, greatest, greatest + 1):
                    self.assertIs(is_byte_box(((place, (low, high)),)), least <= low <= high <= greatest, (place, low, high))

    def test_ranges_of_other_forms(self):
        for pair in [(70,), (70, 71, 72), [70, 71], 70, None, (), (True, 71), (70.0, 71), ("70", "71"), (70, None), (Trap(), 71),
                     (70, Trap()), ((70, 71),)]:
            self.assertIs(is_byte_box(((FIRST, pair),)), False)

    def test_order(self):
        pairs = [(FIRST, (70, 71)), (KIND, (3, 9)), (TTL, (2, 3)), (("byte", 9), (0, 3)), (("byte", 11), (0, 3)),
                 (("special", "interface"), (0, 0)), (LENGTH, (12, 90)), (("special", "side"), (1, 1)), (("special", "talk"), (0, 0))]
        self.assertIs(is_byte_box(tuple(pairs)), True)
        for k in range(len(pairs)):
            self.assertIs(is_byte_box(tuple(pairs[:k] + pairs[k + 1:])), True)
            self.assertIs(is_byte_box(tuple(pairs[:k + 1] + pairs[k:])), False)
            if k:
                self.assertIs(is_byte_box(tuple(pairs[:k - 1] + [pairs[k], pairs[k - 1]] + pairs[k + 1:])), False)
        self.assertIs(is_byte_box(tuple(pairs[::-1])), False)
        self.assertIs(is_byte_box(((FIRST, (70, 70)), (FIRST, (71, 71)))), False)
        # Bytes stand in the order of their numbers, not of their texts.
        self.assertIs(is_byte_box(((("byte", 8), (0, 1)), (("byte", 10), (0, 1)))), True)
        self.assertIs(is_byte_box(((("byte", 10), (0, 1)), (("byte", 8), (0, 1)))), False)

    def test_plain_boxes_tell_more(self):
        inner = (("byte", 12), (0, 9))
        for first, kind, wanted in [
            ((70, 70), (6, 6), True), ((70, 71), (6, 6), False), (None, (6, 6), False), ((70, 70), None, False),
            ((70, 70), (6, 7), False), ((70, 70), (7, 16), True), ((70, 70), (7, 17), False), ((70, 70), (0, 0), True),
            ((70, 70), (0, 1), False), ((70, 70), (1, 2), False), ((70, 70), (2, 5), True), ((70, 70), (2, 6), False),
            ((74, 74), (18, 255), True), ((74, 74), (17, 255), False), ((70, 70), (1, 1), True), ((73, 73), (17, 17), True),
        ]:
            pairs = [inner, (LENGTH, (300, 900))]
            if first:
                pairs.append((FIRST, first))
            if kind:
                pairs.append((KIND, kind))
            self.assertIs(is_byte_box(box(*pairs)), wanted, (first, kind))
            self.assertIs(is_byte_box(box(*pairs[1:])), True)

    def test_closed_bytes(self):
        for first, kind in itertools.product(range(70, 75), (6, 17, 1, 0, 40)):
            end = 2 * (first - 64)
            for number in range(12, 40):
                value = box((FIRST, (first, first)), (KIND, (kind, kind)), (("byte", number), (0, 255)), (LENGTH, (100, 100)))
                self.assertIs(is_byte_box(value), number - end not in CLOSED_BEHIND.get(kind, ()), (first, kind, number))
        # Where several kinds are left, none of them has closed bytes behind the options.
        for number in range(12, 40):
            value = box((FIRST, (70, 70)), (KIND, (2, 5)), (("byte", number), (0, 255)), (LENGTH, (100, 100)))
            self.assertIs(is_byte_box(value), True)

    def test_bytes_beyond_the_length(self):
        for low, high in [(12, 1500), (13, 13), (30, 1500), (1499, 1500), (1500, 1500)]:
            for number in (12, 13, 29, 30, 31, 1498, 1499):
                value = box((FIRST, (70, 70)), (KIND, (40, 40)), (("byte", number), (1, 2)), (LENGTH, (low, high)))
                self.assertIs(is_byte_box(value), number < low, (low, number))
        value = box((FIRST, (70, 70)), (KIND, (40, 40)), (("byte", 12), (1, 2)))
        self.assertIs(is_byte_box(value), False)
        value = box((FIRST, (70, 70)), (KIND, (40, 40)), (("byte", 1500), (1, 2)), (LENGTH, (1500, 1500)))
        self.assertIs(is_byte_box(value), False)
        # The bytes before are there in all packets.
        self.assertIs(is_byte_box(((("byte", 11), (1, 2)), (LENGTH, (12, 12)))), True)

    def test_by_chance(self):
        source = random.Random(221)
        answers = {True: 0, False: 0}
        for _ in range(3000):
            pairs = []
            for place in source.sample([FIRST, KIND, TTL, LENGTH, ("byte", 9), ("special", "talk"), ("byte", 2)], source.randint(0, 4)):
                least, greatest = GREATEST.get(place, (0, 255))
                near = [least, greatest, 6, 7, 17, 18, 30, 70, source.randint(least, greatest)]
                low = source.choice(near)
                pairs.append((place, (low, source.choice([low, low, *near]))))
            for _ in range(source.choice((0, 0, 1, 2))):
                pairs.append((("byte", source.randint(12, 30)), (0, source.randint(0, 255))))
            value = tuple(sorted(pairs)) if source.random() < 0.9 else tuple(pairs)
            wanted = plain_is_box(value)
            self.assertIs(is_byte_box(value), wanted, value)
            answers[wanted] += 1
        self.assertGreater(min(answers.values()), 300, answers)

    def test_any_value(self):
        value = box((FIRST, (70, 70)), (KIND, (6, 6)), (("byte", 16), (0, 7)), (LENGTH, (20, 20)), (("special", "side"), (0, 1)))
        self.assertIs(is_byte_box(value), True)
        for other in odd_values():
            self.assertIs(is_byte_box(other), False)
            self.assertIs(is_byte_box((other,)), False)
            self.assertIs(is_byte_box(((other, (70, 71)),)), False)
            self.assertIs(is_byte_box(((FIRST, other),)), False)
            self.assertIs(is_byte_box(value + (other,)), False)
        for other in spoilt(value):
            self.assertIs(is_byte_box(other), False, other)
        for k in range(len(value)):
            for other in resized(value[k]):
                self.assertIs(is_byte_box(value[:k] + (other,) + value[k + 1:]), False)
        self.assertIs(is_byte_box(nested(value, 150)), False)


class LiesIn(unittest.TestCase):
    def test_all_lie_in_the_empty_box(self):
        for packet in PACKETS:
            self.assertIs(lies_in((), packet, view_of(sight_of(0, packet), 0)), True)

    def test_each_byte(self):
        for packet in PACKETS:
            row = write_packet(packet)
            view = view_of(sight_of(1, packet), 0)
            length = len(row)
            start = ((FIRST, (row[0], row[0])), (KIND, (row[1], row[1])))
            for number in [4, *range(8, length)]:
                byte = row[number]
                for low, high in [(0, 255), (byte, byte), (0, byte), (byte, 255), (byte + 1, 255), (0, byte - 1)]:
                    low = max(low, 2) if number == 4 else low
                    value = start + ((("byte", number), (low, high)), (LENGTH, (length, 1500)))
                    if is_byte_box(value):
                        self.assertIs(lies_in(value, packet, view), low <= byte <= high, (packet, number))
            for other in (70, 71, 72, 74):
                self.assertIs(lies_in(((FIRST, (other, other)),), packet, view), other == row[0])
            for other in (0, 1, 6, 17, 200):
                self.assertIs(lies_in(((KIND, (other, other)),), packet, view), other == row[1])
                self.assertIs(lies_in(((KIND, (0, other)),), packet, view), other >= row[1])

    def test_bytes_that_are_not_there(self):
        packet = (9, 4, 40, 64, (), (), (7, 7))
        view = view_of(sight_of(0, packet), 0)
        for number, length in [(12, 13), (12, 14), (13, 14), (14, 15), (400, 401), (1499, 1500)]:
            value = box((FIRST, (70, 70)), (KIND, (40, 40)), (("byte", number), (0, 255)), (LENGTH, (length, 1500)))
            self.assertIs(is_byte_box(value), True)
            self.assertIs(lies_in(value, packet, view), length <= 14, number)

    def test_specials(self):
        for packet in PACKETS:
            for interface in (0, 1):
                for state in (0, 1, -1, 2, -2) if packet[2] in (6, 17) else (0,):
                    view = view_of(sight_of(interface, packet), state)
                    for name in ("interface", "length", "side", "talk"):
                        number = view[FIELDS.index(name)]
                        least, greatest = GREATEST[("special", name)]
                        for low, high in [(least, greatest), (number, number), (least, number), (number, greatest),
                                          (number + 1, greatest), (least, number - 1)]:
                            if least <= low <= high <= greatest:
                                value = ((("special", name), (low, high)),)
                                self.assertIs(is_byte_box(value), True)
                                self.assertIs(lies_in(value, packet, view), low <= number <= high)

    def test_all_ranges_count(self):
        packet = (9, 4, 6, 64, (), (7, 300, 5), ())
        view = view_of(sight_of(1, packet), 0)
        good = box((FIRST, (70, 70)), (KIND, (6, 6)), (TTL, (60, 70)), (("byte", 9), (9, 9)), (("byte", 14), (1, 1)),
                   (("byte", 15), (44, 44)), (("byte", 16), (5, 7)), (("special", "interface"), (1, 1)), (LENGTH, (20, 20)),
                   (("special", "side"), (0, 0)), (("special", "talk"), (6, 6)))
        self.assertIs(is_byte_box(good), True)
        self.assertIs(lies_in(good, packet, view), True)
        wrong = {FIRST: (71, 71), KIND: (7, 7), TTL: (2, 63), ("byte", 9): (0, 8), ("byte", 14): (0, 0), ("byte", 15): (45, 255),
                 ("byte", 16): (0, 4), ("special", "interface"): (0, 0), LENGTH: (21, 1500), ("special", "side"): (1, 1),
                 ("special", "talk"): (0, 5)}
        for place, pair in wrong.items():
            value = box(*[(other, pair if other == place else told) for other, told in good])
            if is_byte_box(value):
                self.assertIs(lies_in(value, packet, view), False, place)

    def test_by_chance(self):
        source = random.Random(222)
        answers = {True: 0, False: 0}
        for _ in range(6000):
            packet = source.choice(PACKETS)
            row = write_packet(packet)
            view = view_of(sight_of(source.randrange(2), packet), source.choice((0, 1, -2)) if packet[2] in (6, 17) else 0)
            pairs = [(FIRST, (row[0], row[0])), (KIND, (row[1], row[1])), (LENGTH, (source.randint(12, len(row) + 1), 1500))]
            for number in source.sample([4, *range(8, 34)], 3):
                near = row[number] if number < len(row) else 0
                low = max(2 if number == 4 else 0, near - source.choice((0, 3, 255)))
                pairs.append((("byte", number), (low, min(255, low + source.choice((0, 3, 255))))))
            value = box(*pairs)
            if not is_byte_box(value):
                continue
            fields = dict(zip(FIELDS, view))
            wanted = all(
                low <= (fields[name] if word == "special" else row[name] if name < len(row) else -1) <= high
                for (word, name), (low, high) in value)
            self.assertIs(lies_in(value, packet, view), wanted)
            answers[wanted] += 1
        self.assertGreater(min(answers.values()), 50, answers)


if __name__ == "__main__":
    unittest.main()
