"""Points 10.4 and 10.5: tallies and woven histories."""

import random
import unittest

from gatewarden.books import rule_places
from gatewarden.errors import BadOrder
from gatewarden.rows import run_row
from gatewarden.tallies import tally, woven
from tests.bookhelp import B, random_book
from tests.historyhelp import (
    ACCEPT, ALL, DROP, KEEPER, NOTHING, late_book, living_book, plain_key, plain_run, random_history, small_fields,
)

STREAM = (0, 6, 9, 7, 4, 80, 1, 0, 20)
ANSWER = (1, 6, 4, 80, 9, 7, 1, 0, 20)
LATER = (0, 6, 9, 7, 4, 80, 0, 0, 20)


class Tallies(unittest.TestCase):
    def test_no_sight(self):
        for book in (B, KEEPER, ALL, NOTHING):
            self.assertEqual(tally(book, ()), ([(place, 0) for place in rule_places(book)], []))

    def test_never_once_and_often(self):
        met, counts = tally(B, (STREAM, ANSWER, LATER, LATER, LATER))
        self.assertEqual(met, [((0, 0), 4), ((0, 1), 1), ((1, 0), 1)])
        self.assertEqual(counts, [])
        met, _ = tally(B, (STREAM, (0, 6, 9, 7, 4, 81, 1, 0, 20), ANSWER))
        self.assertEqual(met, [((0, 0), 1), ((0, 1), 2), ((1, 0), 1)])
        met, _ = tally(KEEPER, (LATER, LATER, ANSWER))
        self.assertEqual(met, [((0, 0), 0), ((0, 1), 0)])

    def test_jumps_and_ways_back(self):
        book = (
            ("main", (((), ("jump", "far")), ((("kind", ((6, 6),)),), ("jump", "far")), ((), ("count", 40))), DROP),
            ("far", (((), ("count", 7)), ((("interface", ((1, 1),)),), ("back",)), ((), ("count", 0))), ("back",)),
        )
        met, counts = tally(book, (STREAM, ANSWER, (0, 17, 4, 80, 9, 7, 0, 0, 18)))
        self.assertEqual(met, [((0, 0), 3), ((0, 1), 2), ((0, 2), 3), ((1, 0), 5), ((1, 1), 2), ((1, 2), 3)])
        self.assertEqual(counts, [(0, 3), (7, 5), (40, 3)])

    def test_one_number_at_several_places(self):
        rules = tuple((conditions, ("count", number)) for conditions, number in [
            ((), 99), ((), 3), ((("kind", ((6, 6),)),), 99), ((("kind", ((17, 17),)),), 5), ((("kind", ()),), 6),
        ])
        met, counts = tally((("main", rules, ACCEPT),), (STREAM, STREAM))
        self.assertEqual(met, [((0, 0), 2), ((0, 1), 2), ((0, 2), 2), ((0, 3), 0), ((0, 4), 0)])
        self.assertEqual(counts, [(3, 2), (99, 4)])

    def test_against_another_run(self):
        source = random.Random(171)
        noted = 0
        for _ in range(400):
            fields = small_fields(source)
            book = self.book(source, fields)
            history = random_history(source, (book,), 15)
            _, walks, _ = plain_run((book,), history)
            met = {place: 0 for place in rule_places(book)}
            counts = {}
            for [(_, _, numbers, places)] in walks:
                for place in places:
                    met[place] += 1
                for number in numbers:
                    counts[number] = counts.get(number, 0) + 1
            self.assertEqual(tally(book, history), (sorted(met.items()), sorted(counts.items())))
            noted += len(counts)
        self.assertGreater(noted, 20)

    def book(self, source, fields):
        if source.random() < 0.4:
            return random_book(source, 8, fields)
        return source.choice((living_book, late_book))(source, fields)

    def test_kinds_of_values(self):
        found = tally(B, (STREAM,))
        self.assertIs(type(found), tuple)
        self.assertEqual([type(part) for part in found], [list, list])
        self.assertIs(type(found[0][0]), tuple)
        found[0].clear()
        self.assertEqual(len(tally(B, (STREAM,))[0]), 3)


class Woven(unittest.TestCase):
    def test_orders(self):
        one, two = (STREAM, ANSWER, LATER), ((0, 17, 4, 80, 9, 7, 0, 0, 18),)
        self.assertEqual(woven([one, two], [0, 0, 0, 1]), one + two)
        self.assertEqual(woven([one, two], [1, 0, 0, 0]), two + one)
        self.assertEqual(woven([one, two], [0, 1, 0, 0]), (STREAM, two[0], ANSWER, LATER))
        self.assertEqual(woven([two, one, two], [2, 1, 1, 0, 1]), two + one[:2] + two + one[2:])
        self.assertEqual(woven([one, one], [0, 1, 1, 0, 0, 1]), (STREAM, STREAM, ANSWER, ANSWER, LATER, LATER))

    def test_no_history(self):
        self.assertEqual(woven([], []), ())
        self.assertEqual(woven([()], []), ())
        self.assertEqual(woven([(), (STREAM,), ()], [1]), (STREAM,))
        self.assertIs(type(woven([], [])), tuple)
        with self.assertRaises(BadOrder):
            woven([], [0])
        with self.assertRaises(BadOrder):
            woven([()], [0])

    def test_too_few_and_too_many(self):
        one, two = (STREAM, ANSWER), (LATER,)
        for order in [[], [0], [0, 0], [0, 1], [1], [0, 0, 0], [0, 0, 1, 1], [1, 1, 0], [0, 0, 1, 0], [1, 0, 0, 1]]:
            with self.assertRaises(BadOrder, msg=order):
                woven([one, two], order)
        self.assertEqual(woven([one, two], [0, 0, 1]), one + two)

    def test_numbers_of_no_history(self):
        one, two = (STREAM, ANSWER), (LATER,)
        for order in [[0, 0, 2], [0, 0, -1], [2], [-2, -2, -1], [-1, -2, -2], [0, 0, 1, 2], [10 ** 9, 0, 0, 1]]:
            with self.assertRaises(BadOrder, msg=order):
                woven([one, two], order)

    def test_arguments_stay(self):
        histories, order = [(STREAM, ANSWER), (LATER,)], [0, 1, 0]
        woven(histories, order)
        self.assertEqual((histories, order), ([(STREAM, ANSWER), (LATER,)], [0, 1, 0]))

    def test_by_chance(self):
        source = random.Random(172)
        for _ in range(100):
            fields = small_fields(source)
            row = (living_book(source, fields), KEEPER)
            mixed = random_history(source, row, 15)
            keys = sorted({plain_key(sight) for sight in mixed}, key=str)
            histories = [tuple(sight for sight in mixed if plain_key(sight) == key) for key in keys]
            order = [keys.index(plain_key(sight)) for sight in mixed]
            self.assertEqual(woven(histories, order), mixed)
            # Each sight has the same decision as in its own history alone, however they are woven.
            source.shuffle(order)
            decisions = run_row(row, woven(histories, order))
            for k, history in enumerate(histories):
                part = [decision for number, decision in zip(order, decisions) if number == k]
                self.assertEqual(part, run_row(row, history))


if __name__ == "__main__":
    unittest.main()
