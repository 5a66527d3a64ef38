"""Points 1.5 to 1.7: prefixes and exchanges."""

import itertools
import random
import unittest

from gatewarden.prefixes import cover, exchanged, exchanged_set, held, is_exchange, is_prefix, longest
from gatewarden.ranges import both, either, is_set, members
from tests.helpers import numbers_of, odd_values, set_from, spoilt

EXCHANGES = [
    (),
    (((256, 8), (512, 8)),),
    (((0, 1), (32768, 1)),),
    (((7, 16), (9, 16)), ((8, 16), (65535, 16))),
    (((512, 8), (256, 8)), ((0, 12), (16, 12)), ((64, 10), (128, 10))),
]


class IsPrefix(unittest.TestCase):
    def test_lengths_and_bases(self):
        for length in range(17):
            size = 2 ** (16 - length)
            for base in (0, size, 2 * size, 65536 - size, 65536, 1, size - 1, size // 2, 65535):
                right = base <= 65535 and base % size == 0
                self.assertIs(is_prefix((base, length)), right, (base, length))

    def test_out_of_range(self):
        for value in [(-1, 16), (65536, 16), (0, 17), (0, -1), (-65536, 0), (65536, 0), (-2, 15)]:
            self.assertIs(is_prefix(value), False, value)

    def test_any_value(self):
        for value in odd_values():
            self.assertIs(is_prefix(value), False)
        self.assertIs(is_prefix((1, 2)), False)
        for value in [(0,), (0, 0, 0), [0, 0], (True, 16), (0, True), (0, False), (0.0, 0), (0, 16.0), ("0", 0)]:
            self.assertIs(is_prefix(value), False, value)
        for value in spoilt((0, 1)):
            self.assertIs(is_prefix(value), False, value)

    def test_held(self):
        self.assertEqual(held((0, 0)), ((0, 65535),))
        self.assertEqual(held((65535, 16)), ((65535, 65535),))
        self.assertEqual(held((256, 8)), ((256, 511),))
        self.assertEqual(held((32768, 1)), ((32768, 65535),))
        for length in range(17):
            self.assertEqual(members(held((0, length))), 2 ** (16 - length))


def halved(numbers, base, length):
    """The fewest prefixes for the numbers that a prefix holds, found by halving it."""
    size = 2 ** (16 - length)
    here = [number for number in range(base, base + size) if number in numbers]
    if not here:
        return []
    if len(here) == size:
        return [(base, length)]
    return halved(numbers, base, length + 1) + halved(numbers, base + size // 2, length + 1)


class Cover(unittest.TestCase):
    def test_empty_and_whole(self):
        self.assertEqual(cover(()), [])
        self.assertEqual(cover(((0, 65535),)), [(0, 0)])

    def test_single_addresses(self):
        for address in (0, 1, 2, 77, 65534, 65535):
            self.assertEqual(cover(((address, address),)), [(address, 16)])

    def test_odd_begins_and_ends(self):
        self.assertEqual(cover(((1, 6),)), [(1, 16), (2, 15), (4, 15), (6, 16)])
        self.assertEqual(cover(((1, 65535),)), [(2 ** k, 16 - k) for k in range(16)])
        self.assertEqual(cover(((0, 65534),))[0], (0, 1))
        self.assertEqual(len(cover(((0, 65534),))), 16)
        self.assertEqual(len(cover(((1, 65534),))), 30)
        self.assertEqual(cover(((0, 2), (4, 7))), [(0, 15), (2, 16), (4, 14)])

    def test_holds_the_same_and_no_fewer_do(self):
        source = random.Random(21)
        for _ in range(150):
            numbers = {source.randrange(64) + 64 * 5 for _ in range(source.randrange(64))}
            a = set_from(numbers)
            found = cover(a)
            self.assertEqual(found, halved(numbers, 320, 10))
            self.assertEqual(found, sorted(found))
            self.assertTrue(all(is_prefix(prefix) for prefix in found))
            self.assertEqual(sum(members(held(prefix)) for prefix in found), len(numbers))

    def test_nothing_shorter_by_trying(self):
        prefixes = [(base, length) for length in range(13, 17) for base in range(8) if is_prefix((base, length))]
        fewest = {}
        for many in range(5):
            for chosen in itertools.combinations(prefixes, many):
                a = ()
                for prefix in chosen:
                    a = either(a, held(prefix))
                fewest.setdefault(a, many)
        for bits in range(256):
            a = set_from([k for k in range(8) if bits >> k & 1])
            self.assertEqual(len(cover(a)), fewest[a], a)

    def test_sizes_for_which_a_call_ends_soon(self):
        a = tuple((1600 * k + 1, 1600 * k + 1203) for k in range(40))
        found = cover(a)
        self.assertEqual(sum(members(held(prefix)) for prefix in found), members(a))


class Longest(unittest.TestCase):
    def test_prefixes_inside_of_others_in_any_order(self):
        prefixes = [(0, 0), (0, 1), (0, 8), (3, 16), (2, 15), (256, 8)]
        for order in itertools.permutations(prefixes):
            handed = list(order)
            self.assertEqual(longest(handed, 3), (3, 16))
            self.assertEqual(longest(handed, 2), (2, 15))
            self.assertEqual(longest(handed, 4), (0, 8))
            self.assertEqual(longest(handed, 511), (256, 8))
            self.assertEqual(longest(handed, 512), (0, 1))
            self.assertEqual(longest(handed, 32768), (0, 0))
            self.assertEqual(handed, list(order))

    def test_none(self):
        self.assertIsNone(longest([], 5))
        self.assertIsNone(longest([(0, 8), (512, 8)], 256))
        self.assertIsNone(longest([(0, 8), (512, 8)], 511))
        self.assertEqual(longest([(0, 8), (512, 8)], 255), (0, 8))
        self.assertEqual(longest([(0, 8), (0, 8)], 0), (0, 8))


class IsExchange(unittest.TestCase):
    def test_exchanges(self):
        for value in EXCHANGES:
            self.assertIs(is_exchange(value), True, value)

    def test_unlike_lengths(self):
        self.assertIs(is_exchange((((256, 8), (512, 9)),)), False)
        self.assertIs(is_exchange((((256, 8), (512, 8)), ((0, 16), (2, 15)))), False)

    def test_overlapping_within_a_pair(self):
        self.assertIs(is_exchange((((256, 8), (256, 8)),)), False)
        self.assertIs(is_exchange((((0, 0), (0, 0)),)), False)

    def test_overlapping_between_pairs(self):
        for value in [
            (((256, 8), (512, 8)), ((300, 16), (7, 16))),
            (((300, 16), (7, 16)), ((512, 8), (256, 8))),
            (((256, 8), (512, 8)), ((512, 8), (768, 8))),
            (((256, 8), (512, 8)), ((767, 16), (768, 16))),
            (((1, 16), (2, 16)), ((3, 16), (1, 16))),
            (((0, 1), (32768, 1)), ((5, 16), (40000, 16))),
        ]:
            self.assertIs(is_exchange(value), False, value)

    def test_a_pair_twice(self):
        pair = ((256, 8), (512, 8))
        self.assertIs(is_exchange((pair, pair)), False)
        self.assertIs(is_exchange((pair, (pair[1], pair[0]))), False)

    def test_any_value(self):
        for value in odd_values():
            self.assertIs(is_exchange(value), False)
        for value in spoilt((((0, 16), (1, 16)), ((256, 8), (512, 8)))):
            self.assertIs(is_exchange(value), False, value)
        for value in [(((0, 16),),), (((0, 16), (1, 16), (2, 16)),), ((0, 16), (1, 16)), (((0, 17), (1, 17)),),
                      (((1, 8), (256, 8)),), (((256, 8), (1, 8)),), ((),), (((256,), (512,)),)]:
            self.assertIs(is_exchange(value), False, value)


class Exchanged(unittest.TestCase):
    def test_ends_of_the_prefixes(self):
        exchange = EXCHANGES[1]
        for one, other in [(256, 512), (259, 515), (511, 767), (255, 255), (768, 768), (0, 0), (65535, 65535)]:
            self.assertEqual(exchanged(exchange, one), other)
            self.assertEqual(exchanged(exchange, other), one)

    def test_twice_gives_back(self):
        for exchange in EXCHANGES:
            for address in list(range(0, 1100)) + list(range(32700, 32800)) + list(range(65500, 65536)):
                once = exchanged(exchange, address)
                self.assertIn(once, range(65536))
                self.assertEqual(exchanged(exchange, once), address)

    def test_sets(self):
        source = random.Random(22)
        for exchange in EXCHANGES:
            for _ in range(40):
                numbers = {source.randrange(1100) for _ in range(source.randrange(300))} | {65535}
                a = set_from(numbers)
                found = exchanged_set(exchange, a)
                self.assertIs(is_set(found), True)
                self.assertEqual(numbers_of(found), {exchanged(exchange, number) for number in numbers})
                self.assertEqual(exchanged_set(exchange, found), a)

    def test_sets_at_the_edges(self):
        for exchange in EXCHANGES:
            self.assertEqual(exchanged_set(exchange, ()), ())
            self.assertEqual(exchanged_set(exchange, ((0, 65535),)), ((0, 65535),))
        self.assertEqual(exchanged_set(EXCHANGES[1], ((256, 511),)), ((512, 767),))
        self.assertEqual(exchanged_set(EXCHANGES[1], ((0, 300),)), ((0, 255), (512, 556)))
        self.assertEqual(exchanged_set(EXCHANGES[2], ((1, 32768),)), ((0, 0), (32769, 65535)))
        self.assertEqual(both(exchanged_set(EXCHANGES[1], ((0, 300),)), ((256, 511),)), ())


if __name__ == "__main__":
    unittest.main()
