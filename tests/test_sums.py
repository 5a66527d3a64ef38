"""Point 2.1: byte rows and their sums."""

import random
import unittest

from gatewarden.sums import folded, is_byte_row, mended, sum_of
from tests.helpers import odd_values


def plain_words(row):
    row = list(row) + [0] * (len(row) % 2)
    return [256 * row[k] + row[k + 1] for k in range(0, len(row), 2)]


class Folded(unittest.TestCase):
    def test_zeros(self):
        for words in ([], [0], [0, 0, 0], [0] * 100):
            self.assertEqual(folded(words), 0)

    def test_multiples(self):
        for words in ([65535], [65535, 0], [65534, 1], [65535] * 7, [131070], [65535 * 10 ** 20], [1, 65535, 65534]):
            self.assertEqual(folded(words), 65535, words)

    def test_beside_multiples(self):
        self.assertEqual(folded([65535, 1, 2]), 3)
        self.assertEqual(folded([65536]), 1)
        self.assertEqual(folded([65534]), 65534)
        self.assertEqual(folded([1]), 1)
        self.assertEqual(folded([65535 * 10 ** 30 + 5]), 5)
        self.assertEqual(folded([10 ** 100, 65535 - 10 ** 100 % 65535]), 65535)

    def test_carrying_by_hand(self):
        source = random.Random(31)
        for _ in range(300):
            words = [source.randrange(65536) for _ in range(source.randrange(20))]
            total = sum(words)
            while total > 65535:
                total = total // 65536 + total % 65536
            handed = list(words)
            self.assertEqual(folded(handed), total)
            self.assertEqual(handed, words)


class SumOf(unittest.TestCase):
    def test_even_and_odd(self):
        self.assertEqual(sum_of((1, 2, 3)), 64509)
        self.assertEqual(sum_of((1, 2, 3, 0)), 64509)
        self.assertEqual(sum_of((1, 2)), 65535 - 258)
        self.assertEqual(sum_of((7,)), 65535 - 7 * 256)
        self.assertEqual(sum_of(()), 65535)
        self.assertEqual(sum_of((0, 0, 0)), 65535)
        self.assertEqual(sum_of((255, 255)), 0)
        self.assertEqual(sum_of((255,) * 300), 0)

    def test_against_the_words(self):
        source = random.Random(32)
        for _ in range(300):
            row = tuple(source.randrange(256) for _ in range(source.randrange(30)))
            self.assertEqual(sum_of(row), 65535 - folded(plain_words(row)))


class Mended(unittest.TestCase):
    def test_by_the_words(self):
        numbers = (0, 1, 2, 255, 256, 64509, 65534, 65535)
        for check in numbers:
            for old in numbers:
                for new in numbers:
                    right = 65535 - folded([65535 - check, 65535 - old, new])
                    self.assertEqual(mended(check, old, new), right)
        self.assertEqual(mended(64509, 258, 0), 64767)
        self.assertEqual(mended(65535, 65535, 0), 65535)
        self.assertEqual(mended(0, 0, 0), 0)

    def test_is_the_sum_of_the_changed_row(self):
        source = random.Random(33)
        for _ in range(600):
            row = [source.choice((0, 0, 255, source.randrange(256))) for _ in range(2 * source.randrange(1, 8))]
            at = 2 * source.randrange(len(row) // 2)
            new = source.choice((0, 65535, source.randrange(65536)))
            changed = row[:at] + [new // 256, new % 256] + row[at + 2:]
            if any(row) and any(changed):
                old = 256 * row[at] + row[at + 1]
                self.assertEqual(mended(sum_of(tuple(row)), old, new), sum_of(tuple(changed)))


class ByteRows(unittest.TestCase):
    def test_byte_rows(self):
        for value in [(), (0,), (255,), (1, 2, 3), (0,) * 2000]:
            self.assertIs(is_byte_row(value), True)
        for value in [(256,), (-1,), (True,), (0, False), [0], (0.0,), ("0",), b"\x00", (1, 2, 256)]:
            self.assertIs(is_byte_row(value), False)
        for value in odd_values():
            self.assertIs(is_byte_row(value), False)


if __name__ == "__main__":
    unittest.main()
