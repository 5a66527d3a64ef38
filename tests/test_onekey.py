"""Points 19.1 to 19.3: the talk of one key."""

import itertools
import random
import unittest

from gatewarden.errors import NoWay
from gatewarden.onekey import passing, passing_lengths, reached, way_to
from gatewarden.ranges import is_set
from gatewarden.rows import run_row, states_after
from gatewarden.talks import key_of
from gatewarden.views import is_history
from tests.bookhelp import B
from tests.helpers import numbers_of, set_from
from tests.historyhelp import (
    ACCEPT, ALL, DROP, KEEPER, LEAST, NOTHING, NO_TALK, changed_book, late_book, living_book, only, plain_row, signed, small_fields,
    starts_in,
)

STREAM_KEY, ASKING_KEY = (6, (4, 80), (9, 7)), (17, (4, 80), (9, 7))


def sight(key, letter, length):
    kind, first, second = key
    sender, interface, flags = letter
    ends = first + second if sender == 0 else second + first
    return (interface, kind) + ends + (flags, 0, length)


def letters(kind):
    flags = range(8) if kind == 6 else [0]
    return list(itertools.product((0, 1), (0, 1), flags))


def talk_of(key, state):
    return (abs(state), key[1] if state > 0 else key[2]) if state else NO_TALK


def plain_step(row, key, states, letter, length):
    """Whether a sight passes, and the states after it."""
    decision, after, _ = plain_row(row, [talk_of(key, state) for state in states], sight(key, letter, length))
    return decision == ACCEPT, tuple(signed(key, talk) for talk in after)


def lengths_for(row, key):
    """The least lengths of all parts that the books can tell apart."""
    return [n for n in starts_in(row, ("length",), 1500, (), [LEAST[key[0]]]) if n >= LEAST[key[0]]]


def plain_reached(row, key):
    """The fewest sights to all states, level by level."""
    known = {(0,) * len(row): 0}
    level = list(known)
    while level:
        new = []
        for states in level:
            for letter, length in itertools.product(letters(key[0]), lengths_for(row, key)):
                _, after = plain_step(row, key, states, letter, length)
                if after not in known:
                    known[after] = known[states] + 1
                    new.append(after)
        level = new
    return sorted(known.items())


def all_states(key, gates):
    top = {6: 4, 17: 2}[key[0]]
    return list(itertools.product(range(-top, top + 1), repeat=gates))


def rows_by_chance(seed, many, gates=2):
    source = random.Random(seed)
    for _ in range(many):
        fields = small_fields(source)
        if source.random() < 0.5:
            fields["length"] = sorted({source.choice((18, 20, 21, 1500, source.randint(1, 1500))) for _ in range(2)})
        book = source.choice((living_book, late_book))(source, fields)
        other = changed_book(source, book, fields)
        row = tuple(source.choice((book, other, KEEPER)) for _ in range(source.randint(1, gates)))
        ends = sorted({(source.choice(starts_in(row, ("source", "destination"), 65535, (), [9])), source.choice((0, 7, 65535))), (4, 80)})
        if len(ends) < 2 or ends[0][0] == ends[1][0]:
            ends = [(4, 80), (9, 7)]
        yield source, row, (source.choice((6, 17)), ends[0], ends[1])


class Reached(unittest.TestCase):
    def test_example(self):
        self.assertEqual(reached((B,), ASKING_KEY), [((-2,), 2), ((-1,), 1), ((0,), 0)])

    def test_plain_rows(self):
        self.assertEqual(reached((NOTHING,), STREAM_KEY), [((0,), 0)])
        self.assertEqual(reached((NOTHING, ALL), ASKING_KEY), [((0, -2), 2), ((0, -1), 1), ((0, 0), 0), ((0, 1), 1), ((0, 2), 2)])
        self.assertEqual(reached((ALL,), STREAM_KEY), [((-4,), 3), ((-3,), 3), ((-2,), 2), ((-1,), 1), ((0,), 0), ((1,), 1), ((2,), 2), ((3,), 3), ((4,), 3)])
        self.assertEqual(reached((ALL,), ASKING_KEY), [((-2,), 2), ((-1,), 1), ((0,), 0), ((1,), 1), ((2,), 2)])

    def test_states_at_two_gates(self):
        # Behind a gate that drops, a packet is not seen: so from outside the right gate alone moves.
        row = (only(("interface", ((0, 0),))), ALL)
        found = reached(row, ASKING_KEY)
        self.assertEqual(found, plain_reached(row, ASKING_KEY))
        self.assertIn(((0, 1), 1), found)
        self.assertNotIn((1, 0), dict(found))
        self.assertEqual(dict(found)[(0, 0)], 0)

    def test_lengths(self):
        row = (only(("length", ((777, 777),)), ("talk", ((1, 1),))),)
        self.assertEqual(reached(row, STREAM_KEY), [((-1,), 1), ((0,), 0), ((1,), 1)])
        row = (only(("length", ((0, 19),))),)
        self.assertEqual(reached(row, STREAM_KEY), [((0,), 0)])
        self.assertEqual(len(reached(row, ASKING_KEY)), 5)

    def test_ends_of_the_key(self):
        row = (only(("source", ((4, 4),)), ("sport", ((80, 80),))),)
        self.assertEqual(reached(row, ASKING_KEY), [((0,), 0), ((1,), 1)])
        self.assertEqual(reached(row, (17, (4, 81), (9, 7))), [((0,), 0)])
        self.assertEqual(reached(row, (17, (1, 1), (4, 80))), [((-1,), 1), ((0,), 0)])

    def test_by_chance(self):
        sizes = {}
        for _, row, key in rows_by_chance(411, 45):
            found = reached(row, key)
            self.assertEqual(found, plain_reached(row, key), (row, key))
            self.assertIs(type(found), list)
            sizes[len(found)] = True
        self.assertGreater(len(sizes), 6)

    def test_three_gates(self):
        row = (ALL, KEEPER, ALL)
        found = reached(row, ASKING_KEY)
        self.assertEqual(found, plain_reached(row, ASKING_KEY))


class WayTo(unittest.TestCase):
    def check(self, row, key):
        """There is a way to what is reached, with the fewest sights, and to nothing else."""
        fewest = dict(reached(row, key))
        for states in all_states(key, len(row)):
            if states not in fewest:
                with self.assertRaises(NoWay):
                    way_to(row, key, states)
                continue
            found = way_to(row, key, states)
            self.assertIs(is_history(found), True)
            self.assertEqual(len(found), fewest[states])
            self.assertTrue(all(key_of(one) == key for one in found))
            wanted = [(key, states)] if any(states) else []
            self.assertEqual(states_after(row, found), wanted)

    def test_plain_rows(self):
        self.check((ALL,), STREAM_KEY)
        self.check((B,), ASKING_KEY)
        self.check((B,), STREAM_KEY)
        self.check((NOTHING,), STREAM_KEY)
        self.assertEqual(way_to((NOTHING,), STREAM_KEY, (0,)), ())

    def test_by_chance(self):
        for _, row, key in rows_by_chance(412, 14):
            self.check(row, key)


class Passing(unittest.TestCase):
    def check(self, row, key, states, lengths=None):
        wanted = {letter: numbers for letter in letters(key[0]) if (numbers := plain_lengths(row, key, states, letter, lengths))}
        found = passing(row, key, states)
        self.assertIs(type(found), list)
        self.assertEqual(found, sorted(wanted))
        for letter in letters(key[0]):
            a = passing_lengths(row, key, states, letter)
            self.assertIs(is_set(a), True)
            self.assertEqual(numbers_of(a), wanted.get(letter, set()), letter)
            self.assertEqual(a, set_from(wanted.get(letter, set())))

    def test_all_and_nothing(self):
        self.assertEqual(passing((ALL,), ASKING_KEY, (0,)), [(0, 0, 0), (0, 1, 0), (1, 0, 0), (1, 1, 0)])
        self.assertEqual(len(passing((ALL, ALL), STREAM_KEY, (1, -3))), 32)
        self.assertEqual(passing((ALL, NOTHING), STREAM_KEY, (1, -3)), [])
        self.assertEqual(passing_lengths((ALL,), ASKING_KEY, (0,), (0, 0, 0)), ((18, 1500),))
        self.assertEqual(passing_lengths((ALL,), STREAM_KEY, (0,), (0, 0, 7)), ((20, 1500),))
        self.assertEqual(passing_lengths((NOTHING,), STREAM_KEY, (0,), (0, 0, 7)), ())

    def test_living_talks(self):
        # The keeper lets pass what a talk allows, from both sides.
        self.assertEqual(passing((KEEPER,), STREAM_KEY, (0,)), [(0, 0, 1), (1, 0, 1)])
        self.assertEqual(passing((KEEPER,), STREAM_KEY, (1,)), [
            (0, 0, 1), (0, 0, 4), (0, 1, 1), (0, 1, 4), (1, 0, 1), (1, 0, 4), (1, 1, 1), (1, 1, 4)])
        self.assertEqual(passing((KEEPER,), ASKING_KEY, (-2,)), [(0, 0, 0), (0, 1, 0), (1, 0, 0), (1, 1, 0)])
        # States that no history leads to are asked as well.
        self.assertEqual(passing((KEEPER, KEEPER), ASKING_KEY, (0, 2)), [(0, 0, 0), (1, 0, 0)])
        self.assertEqual(passing((KEEPER, KEEPER), ASKING_KEY, (2, 0)), [(0, 0, 0), (1, 0, 0)])

    def test_lengths(self):
        book = only(("length", ((0, 19), (30, 30), (40, 1499))), ("flags", ((0, 1),)))
        self.assertEqual(passing_lengths((book,), STREAM_KEY, (2,), (0, 1, 1)), ((30, 30), (40, 1499)))
        self.assertEqual(passing_lengths((book,), STREAM_KEY, (2,), (0, 1, 2)), ())
        self.assertEqual(passing_lengths((book,), ASKING_KEY, (2,), (0, 1, 0)), ((18, 19), (30, 30), (40, 1499)))
        other = only(("length", ((35, 45),)))
        self.assertEqual(passing_lengths((book, other), STREAM_KEY, (2, -4), (0, 1, 1)), ((40, 45),))
        self.assertEqual(passing((book, only(("length", ((31, 39),)))), STREAM_KEY, (0, 0)), [])
        for states in all_states(ASKING_KEY, 1):
            self.check((book,), ASKING_KEY, states, range(18, 1501))

    def test_by_chance(self):
        answers = {}
        for source, row, key in rows_by_chance(413, 60):
            states = source.choice(all_states(key, len(row)))
            self.check(row, key, states)
            answers[len(passing(row, key, states))] = True
        self.assertGreater(len(answers), 5)

    def test_what_passes_after_a_way(self):
        for source, row, key in rows_by_chance(414, 25):
            states, _ = source.choice(reached(row, key))
            way = way_to(row, key, states)
            for letter in letters(key[0]):
                for length in lengths_for(row, key) + [1500]:
                    passes = run_row(row, way + (sight(key, letter, length),))[-1] == ACCEPT
                    a = passing_lengths(row, key, states, letter)
                    self.assertEqual(any(low <= length <= high for low, high in a), passes)


def plain_lengths(row, key, states, letter, lengths=None):
    """The lengths with which a sight passes; one of each part is tried, or all."""
    starts = list(lengths or lengths_for(row, key))
    ends = starts[1:] + [1501]
    return {
        length for low, high in zip(starts, ends) if plain_step(row, key, states, letter, low)[0] for length in range(low, high)}


if __name__ == "__main__":
    unittest.main()
