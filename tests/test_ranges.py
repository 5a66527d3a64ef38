"""Points 1.1 to 1.4: sets and their texts."""

import itertools
import random
import unittest

from gatewarden.errors import BadText
from gatewarden.ranges import (
    both, contains, either, ends_of, is_set, is_within, members, outside, read_set, set_of, without, write_set,
)
from tests.helpers import nested, numbers_of, odd_values, set_from, spoilt

# All sets of numbers below 6, and so all ways in which two sets can lie to each other.
SMALL = [set_from([k for k in range(6) if bits >> k & 1]) for bits in range(64)]


class IsSet(unittest.TestCase):
    def test_sets(self):
        for value in SMALL + [(), ((0, 0),), ((0, 10 ** 40),), ((3, 5), (7, 7), (9, 20))]:
            self.assertIs(is_set(value), True, value)

    def test_touching_overlapping_reversed(self):
        for value in [
            ((3, 5), (6, 7)), ((3, 5), (5, 7)), ((3, 5), (4, 4)), ((3, 5), (3, 5)), ((7, 9), (3, 5)), ((5, 3),),
            ((1, 0),), ((0, 0), (1, 1)), ((4, 6), (1, 2)),
        ]:
            self.assertIs(is_set(value), False, value)

    def test_numbers_below_zero(self):
        for value in [((-1, 3),), ((-3, -1),), ((-1, -1), (5, 6)), ((3, -1),)]:
            self.assertIs(is_set(value), False, value)

    def test_booleans_and_floats(self):
        for value in [((False, True),), ((0, True),), ((False, 0),), ((True, True),), ((0.0, 1.0),), ((0, 1.0),)]:
            self.assertIs(is_set(value), False, value)

    def test_lists(self):
        for value in [[], [(1, 2)], ([1, 2],), ((1, 2), [4, 5])]:
            self.assertIs(is_set(value), False, value)

    def test_too_few_and_too_many_items(self):
        for value in [((),), ((1,),), ((1, 2, 3),), (1, 2), ((1, 2), ()), ((1, 2), (4, 5, 6)), (((1, 2),),)]:
            self.assertIs(is_set(value), False, value)

    def test_any_value(self):
        for value in odd_values():
            self.assertIs(is_set(value), False, repr(type(value)))
        for value in spoilt(((0, 1), (3, 3), (5, 9))):
            self.assertIs(is_set(value), False, value)
        self.assertIs(is_set(nested((1, 2), 199)), False)


class SetOf(unittest.TestCase):
    def test_no_pairs(self):
        self.assertEqual(set_of([]), ())

    def test_touching_overlapping_repeated_reversed(self):
        self.assertEqual(set_of([(5, 9), (3, 3), (10, 12)]), ((3, 3), (5, 12)))
        self.assertEqual(set_of([(1, 2), (1, 2), (2, 2)]), ((1, 2),))
        self.assertEqual(set_of([(4, 2), (3, 2)]), ())
        self.assertEqual(set_of([(9, 1), (3, 3)]), ((3, 3),))
        self.assertEqual(set_of([(0, 100), (5, 6), (101, 101)]), ((0, 101),))
        self.assertEqual(set_of([(0, 0), (2, 2)]), ((0, 0), (2, 2)))

    def test_against_all_members(self):
        source = random.Random(11)
        for _ in range(400):
            pairs = [(source.randrange(12), source.randrange(12)) for _ in range(source.randrange(6))]
            found = set_of(pairs)
            self.assertIs(is_set(found), True)
            self.assertEqual(found, set_from(numbers_of(pairs)), pairs)

    def test_every_order(self):
        pairs = [(5, 9), (3, 3), (10, 12), (0, 1), (7, 4)]
        for order in itertools.permutations(pairs):
            self.assertEqual(set_of(list(order)), ((0, 1), (3, 3), (5, 12)))

    def test_list_stays(self):
        pairs = [(5, 9), (3, 3), (10, 12), (9, 2)]
        set_of(pairs)
        self.assertEqual(pairs, [(5, 9), (3, 3), (10, 12), (9, 2)])


class Operations(unittest.TestCase):
    def test_all_pairs_of_small_sets(self):
        for a in SMALL:
            for b in SMALL:
                one, other = numbers_of(a), numbers_of(b)
                self.assertEqual(both(a, b), set_from(one & other))
                self.assertEqual(either(a, b), set_from(one | other))
                self.assertEqual(without(a, b), set_from(one - other))
                self.assertIs(is_within(a, b), one <= other)

    def test_greater_sets(self):
        source = random.Random(12)
        for _ in range(200):
            one = {source.randrange(120) for _ in range(source.randrange(80))}
            other = {source.randrange(120) for _ in range(source.randrange(80))}
            a, b = set_from(one), set_from(other)
            self.assertEqual(both(a, b), set_from(one & other))
            self.assertEqual(either(a, b), set_from(one | other))
            self.assertEqual(without(a, b), set_from(one - other))
            self.assertEqual(outside(a, 100), set_from(set(range(101)) - one))
            self.assertIs(is_within(a, b), one <= other)
            self.assertEqual(members(a), len(one))

    def test_great_numbers(self):
        a = ((0, 10 ** 30), (10 ** 31, 10 ** 32))
        self.assertEqual(without(a, ((5, 10 ** 31),)), ((0, 4), (10 ** 31 + 1, 10 ** 32)))
        self.assertEqual(members(a), 10 ** 30 + 1 + 9 * 10 ** 31 + 1)
        self.assertIs(contains(a, 10 ** 30 + 1), False)

    def test_empty_sets(self):
        a = ((2, 4),)
        self.assertEqual(both(a, ()), ())
        self.assertEqual(both((), a), ())
        self.assertEqual(either(a, ()), a)
        self.assertEqual(either((), ()), ())
        self.assertEqual(without((), a), ())
        self.assertEqual(without(a, ()), a)
        self.assertIs(is_within((), ()), True)
        self.assertIs(is_within((), a), True)
        self.assertIs(is_within(a, ()), False)
        self.assertEqual(members(()), 0)
        self.assertIs(contains((), 0), False)

    def test_outside_at_below_and_above_the_ends(self):
        a = ((3, 3), (5, 12))
        self.assertEqual(outside(a, 13), ((0, 2), (4, 4), (13, 13)))
        for top in range(16):
            self.assertEqual(outside(a, top), set_from(set(range(top + 1)) - numbers_of(a)), top)
            self.assertEqual(outside((), top), ((0, top),))
            self.assertEqual(outside(((0, top),), top), ())
            self.assertEqual(outside(((0, top + 3),), top), ())

    def test_contains_at_beside_and_between_the_ends(self):
        a = ((3, 3), (5, 12))
        found = [number for number in range(16) if contains(a, number)]
        self.assertEqual(found, [3, 5, 6, 7, 8, 9, 10, 11, 12])
        self.assertIs(contains(a, 3), True)
        self.assertIs(contains(a, 4), False)

    def test_sizes_for_which_a_call_ends_soon(self):
        a = tuple((10 * k, 10 * k + 4) for k in range(40))
        b = tuple((10 * k + 3, 10 * k + 6) for k in range(40))
        self.assertEqual(members(either(a, b)), 280)
        self.assertEqual(members(both(a, b)), 80)
        self.assertEqual(members(without(a, b)), 120)
        self.assertEqual(len(ends_of([a, b], 1000)), 159)


class EndsOf(unittest.TestCase):
    def test_no_set(self):
        self.assertEqual(ends_of([], 10), [])
        self.assertEqual(ends_of([()], 10), [])
        self.assertEqual(ends_of([(), ()], 0), [])

    def test_against_the_words(self):
        source = random.Random(13)
        for _ in range(300):
            sets = [source.choice(SMALL) for _ in range(source.randrange(4))]
            for top in range(9):
                right = [
                    c for c in range(1, top + 1)
                    if any((c - 1 in numbers_of(a)) != (c in numbers_of(a)) for a in sets)
                ]
                self.assertEqual(ends_of(sets, top), right)

    def test_at_below_and_above_the_top(self):
        sets = [((0, 2),), ((3, 5), (7, 9))]
        self.assertEqual(ends_of(sets, 10), [3, 6, 7, 10])
        self.assertEqual(ends_of(sets, 9), [3, 6, 7])
        self.assertEqual(ends_of(sets, 2), [])
        self.assertEqual(ends_of([((0, 9),)], 9), [])
        self.assertEqual(sets, [((0, 2),), ((3, 5), (7, 9))])


class Texts(unittest.TestCase):
    def test_written(self):
        self.assertEqual(write_set(()), "none")
        self.assertEqual(write_set(((0, 0),)), "0")
        self.assertEqual(write_set(((3, 3), (5, 9))), "3,5-9")
        self.assertEqual(write_set(((0, 65535),)), "0-65535")
        self.assertEqual(write_set(((1, 2), (9999999999, 9999999999))), "1-2,9999999999")

    def test_read_gives_back(self):
        for a in SMALL + [((9999999998, 9999999999),), ((0, 9), (1234567890, 1234567891))]:
            self.assertEqual(read_set(write_set(a)), a)

    def test_texts_that_no_set_has(self):
        for text in [
            "", " ", "None", "none ", " none", "none,3", "3,none", "-", ",", "3,", ",3", "3,,5", "03", "00", "3-05",
            "03-5", "+3", "-3", "3--5", "3-", "-3-5", "3 ", " 3", "3 - 5", "3- 5", "3, 5", "5-3", "3-3", "3,4",
            "3-5,6", "3-5,5-9", "5,3", "3,3", "3-5-7", "12345678901", "1-12345678901", "00000000001", "1_0", "0x1",
            "1.0", "1e3", "a", "3;5", "3\n", "\n3", "3\n,5", "9-10,4", "2-1", "0-0", "1,2-3",
        ]:
            with self.assertRaises(BadText, msg=repr(text)):
                read_set(text)

    def test_ten_and_eleven_digits(self):
        self.assertEqual(read_set("1234567890"), ((1234567890, 1234567890),))
        self.assertEqual(read_set("0-9999999999"), ((0, 9999999999),))
        with self.assertRaises(BadText):
            read_set("10000000000")

    def test_every_short_text(self):
        written = {write_set(a): a for a in SMALL}
        for many in range(5):
            for signs in itertools.product("012,-", repeat=many):
                text = "".join(signs)
                try:
                    found = read_set(text)
                except BadText:
                    self.assertNotIn(text, written)
                else:
                    self.assertIs(is_set(found), True)
                    self.assertEqual(write_set(found), text)


if __name__ == "__main__":
    unittest.main()
