"""Points 7.1 to 7.3: rows of gates and their histories."""

import random
import unittest

from gatewarden.rows import decisions_at, is_row, run_row, states_after
from gatewarden.talks import key_of
from tests.bookhelp import B, random_book, random_fields
from tests.helpers import Trap, nested, odd_values, resized, spoilt
from tests.historyhelp import (
    ACCEPT, ALL, DROP, KEEPER, NOTHING, late_book, living_book, only, plain_key, plain_run, random_history, small_fields,
)

# A stream from (9, 7) to (4, 80): the second end of the key opens it.
KEY = (6, (4, 80), (9, 7))


def stream(interface, flags, by_opener=True, length=20):
    ends = (9, 7, 4, 80) if by_opener else (4, 80, 9, 7)
    return (interface, 6) + ends + (flags, 0, length)


class IsRow(unittest.TestCase):
    def test_rows(self):
        books = (B, KEEPER, ALL, NOTHING)
        for many in range(6):
            self.assertIs(is_row((books * 2)[:many]), 1 <= many <= 3, many)
            self.assertIs(is_row((B,) * many), 1 <= many <= 3, many)

    def test_no_rows(self):
        for value in (B, [B], [B, B], (B, None), (None,), ((),), (B, [B]), (B, ()), (B, B, (B,)), ((B,), (B,)), {B: B}):
            self.assertIs(is_row(value), False)
        bad = (("main", (), ("back",)),)
        self.assertIs(is_row((bad,)), False)
        self.assertIs(is_row((B, B, bad)), False)

    def test_any_value(self):
        for value in odd_values():
            self.assertIs(is_row(value), False)
            self.assertIs(is_row((B, value)), False)
            self.assertIs(is_row((value, B, B)), False)
        for value in spoilt((KEEPER, ALL)):
            self.assertIs(is_row(value), False, value)
        for book in resized(ALL[0]):
            self.assertIs(is_row(((book,),)), False)
        self.assertIs(is_row(nested(B, 190)), False)
        self.assertIs(is_row((Trap(), B)), False)


class Runs(unittest.TestCase):
    def test_example(self):
        history = ((0, 6, 9, 7, 4, 80, 1, 0, 20), (1, 6, 4, 80, 9, 7, 1, 0, 20), (1, 6, 4, 80, 9, 7, 1, 0, 20))
        self.assertEqual(run_row((B,), history), [ACCEPT, ACCEPT, DROP])
        self.assertEqual(states_after((B,), history[:2]), [(KEY, (-2,))])

    def test_no_sight(self):
        for row in ((B,), (B, B, B)):
            self.assertEqual(run_row(row, ()), [])
            self.assertEqual(states_after(row, ()), [])

    def test_from_both_sides(self):
        refuse = {k: (("main", (), ("refuse", k)),) for k in (1, 2, 3)}
        row = (refuse[1], refuse[2], refuse[3])
        self.assertEqual(run_row(row, (stream(0, 1), stream(1, 1))), [("refuse", 1), ("refuse", 3)])
        row = (ALL, refuse[2], refuse[3])
        self.assertEqual(run_row(row, (stream(0, 1), stream(1, 1))), [("refuse", 2), ("refuse", 3)])
        row = (ALL, ALL, NOTHING)
        self.assertEqual(run_row(row, (stream(0, 1), stream(1, 1))), [DROP, DROP])
        self.assertEqual(run_row((ALL, ALL, ALL), (stream(0, 1), stream(1, 1))), [ACCEPT, ACCEPT])

    def test_the_middle_gate_stops(self):
        row = (ALL, NOTHING, ALL)
        # From the left only the first gate takes the packet, from the right only the last one.
        self.assertEqual(states_after(row, (stream(0, 1),)), [(KEY, (-1, 0, 0))])
        self.assertEqual(states_after(row, (stream(1, 1),)), [(KEY, (0, 0, -1))])
        history = (stream(0, 1), stream(1, 1), stream(1, 1, False))
        self.assertEqual(run_row(row, history), [DROP, DROP, DROP])
        self.assertEqual(states_after(row, history), [(KEY, (-1, 0, -2))])
        self.assertEqual(decisions_at(row, (0, 0, 0), stream(0, 1)), (DROP, (-1, 0, 0)))

    def test_later_gates_do_not_see_it(self):
        row = (KEEPER, only(("length", ((0, 100),))), KEEPER)
        long = stream(0, 1, True, 500)
        self.assertEqual(run_row(row, (long,)), [DROP])
        self.assertEqual(states_after(row, (long,)), [(KEY, (-1, 0, 0))])
        # The last gate knows of no talk, so it drops the answer.
        answer = stream(1, 1, False)
        self.assertEqual(run_row(row, (long, answer)), [DROP, DROP])
        self.assertEqual(states_after(row, (long, answer)), [(KEY, (-1, 0, 0))])
        again = stream(0, 1)
        self.assertEqual(run_row(row, (long, again, answer)), [DROP, ACCEPT, ACCEPT])
        self.assertEqual(states_after(row, (long, again, answer)), [(KEY, (-2, -2, -2))])

    def test_kinds_without_talks(self):
        history = tuple((interface, kind, 9, 0, 4, 0, 0, 0, 30) for interface in (0, 1) for kind in (0, 1, 50, 255))
        for row in ((ALL,), (ALL, ALL), (B, KEEPER)):
            self.assertEqual(states_after(row, history), [])
        self.assertEqual(run_row((ALL, ALL), history), [ACCEPT] * 8)
        self.assertEqual(run_row((B, B), history), [DROP] * 8)

    def test_talks_that_end(self):
        steps = [(stream(0, 1), -1), (stream(1, 1, False), -2), (stream(0, 0), -2), (stream(0, 2), -3), (stream(1, 2, False), 0)]
        for many in range(1, 6):
            history = tuple(sight for sight, _ in steps[:many])
            state = steps[many - 1][1]
            self.assertEqual(states_after((KEEPER,), history), [(KEY, (state,))] if state else [])
            self.assertEqual(run_row((KEEPER,), history), [ACCEPT] * many)
        ended = tuple(sight for sight, _ in steps) + (stream(1, 1, False),)
        self.assertEqual(run_row((KEEPER,), ended)[-1], DROP)
        ended = (stream(0, 1), stream(1, 4, False))
        self.assertEqual(states_after((KEEPER, KEEPER), ended), [])

    def test_wrong_moves(self):
        # A wrong move passes a book that accepts it, and changes no state.
        history = (stream(0, 1), stream(1, 1, False), stream(0, 3), stream(0, 1), stream(1, 7, False))
        self.assertEqual(run_row((ALL, ALL), history), [ACCEPT] * 5)
        self.assertEqual(states_after((ALL, ALL), history), [(KEY, (-2, -2))])
        self.assertEqual(states_after((ALL,), (stream(0, 2), stream(0, 0))), [])
        self.assertEqual(decisions_at((ALL,), (3,), stream(0, 1)), (ACCEPT, (3,)))
        self.assertEqual(decisions_at((KEEPER,), (3,), stream(0, 1)), (DROP, (3,)))

    def test_several_keys(self):
        asking = (0, 17, 4, 80, 9, 7, 0, 0, 18)
        other = (0, 17, 4, 81, 9, 7, 0, 0, 18)
        history = (stream(0, 1), asking, other, stream(1, 1, False), (1, 17, 9, 7, 4, 81, 0, 0, 18), stream(0, 4))
        self.assertEqual(states_after((KEEPER,), history), [((17, (4, 80), (9, 7)), (1,)), ((17, (4, 81), (9, 7)), (2,))])
        self.assertEqual(
            states_after((KEEPER,), history[:5]),
            [(KEY, (-2,)), ((17, (4, 80), (9, 7)), (1,)), ((17, (4, 81), (9, 7)), (2,))])

    def test_unlike_openers(self):
        # The first gate lets askings of the first end through, the second one those of the second end.
        left = only(("source", ((4, 4),)), ("dport", ((7, 7),)))
        right = only(("source", ((9, 9),)))
        row = (left, right)
        first, second = (0, 17, 4, 80, 9, 7, 0, 0, 18), (1, 17, 9, 7, 4, 80, 0, 0, 18)
        key = (17, (4, 80), (9, 7))
        self.assertEqual(states_after(row, (first, second)), [(key, (1, -1))])
        self.assertEqual(decisions_at(row, (1, -1), first), (DROP, (1, -1)))
        self.assertEqual(decisions_at((ALL, ALL), (1, -1), first), (ACCEPT, (1, -2)))
        self.assertEqual(decisions_at((ALL, ALL), (1, -1), second), (ACCEPT, (2, -1)))
        self.assertEqual(decisions_at((ALL, ALL, ALL), (-2, 0, 1), first), (ACCEPT, (-2, 1, 1)))

    def test_states_that_are_given(self):
        row = (KEEPER, ALL)
        closing = stream(1, 2, False)
        self.assertEqual(decisions_at(row, (-2, -3), closing), (ACCEPT, (-4, 0)))
        self.assertEqual(decisions_at(row, (2, 3), closing), (ACCEPT, (3, 3)))
        self.assertEqual(decisions_at(row, (0, -2), closing), (DROP, (0, -4)))
        self.assertEqual(decisions_at(row, (-2, 0), closing), (ACCEPT, (-4, 0)))
        note = (1, 1, 9, 0, 4, 0, 0, 3, 30)
        self.assertEqual(decisions_at((ALL, ALL), (0, 0), note), (ACCEPT, (0, 0)))
        self.assertEqual(decisions_at((B, ALL), (0, 0), note), (DROP, (0, 0)))


class ByChance(unittest.TestCase):
    def test_against_another_run(self):
        source = random.Random(101)
        passed, ended = 0, 0
        for _ in range(300):
            fields = small_fields(source)
            books = [living_book(source, fields), late_book(source, fields), KEEPER, B, ALL]
            row = tuple(source.choice(books) for _ in range(source.randint(1, 3)))
            history = random_history(source, row, 16)
            decisions, _, states = plain_run(row, history)
            self.assertEqual(run_row(row, history), decisions)
            self.assertEqual(states_after(row, history), states)
            passed += decisions.count(ACCEPT)
            ended += len(states)
        self.assertGreater(passed, 300)
        self.assertGreater(ended, 100)

    def test_each_key_by_itself(self):
        source = random.Random(102)
        for _ in range(100):
            fields = random_fields(source, 3, 2)
            row = (living_book(source, fields), random_book(source, 4, fields))[:source.randint(1, 2)]
            history = random_history(source, row, 16)
            decisions = run_row(row, history)
            for key in {plain_key(sight) for sight in history}:
                part = tuple(sight for sight in history if key_of(sight) == key)
                wanted = [decision for sight, decision in zip(history, decisions) if key_of(sight) == key]
                self.assertEqual(run_row(row, part), wanted)
                self.assertEqual(states_after(row, part), [pair for pair in states_after(row, history) if pair[0] == key])

    def test_step_by_step(self):
        source = random.Random(103)
        for _ in range(100):
            fields = small_fields(source)
            row = (late_book(source, fields), KEEPER)
            history = random_history(source, row, 16)
            held = {}
            for sight, decision in zip(history, run_row(row, history)):
                found, after = decisions_at(row, held.get(key_of(sight), (0, 0)), sight)
                self.assertEqual(found, decision)
                self.assertIs(type(after), tuple)
                if key_of(sight) is None:
                    self.assertEqual(after, (0, 0))
                else:
                    held[key_of(sight)] = after
            self.assertEqual(states_after(row, history), sorted((key, held[key]) for key in held if any(held[key])))

    def test_kinds_of_values(self):
        history = (stream(0, 1), stream(1, 1, False))
        for found in (run_row((B, B), history), states_after((B, B), history)):
            self.assertIs(type(found), list)
        self.assertEqual([type(decision) for decision in run_row((B, B), history)], [tuple, tuple])
        [(key, states)] = states_after((B, B), history)
        self.assertEqual((type(key), type(states), type(states[0])), (tuple, tuple, int))
        self.assertIs(type(decisions_at((B,), (0,), history[0])), tuple)

    def test_lists_are_new(self):
        history = (stream(0, 1),)
        run_row((KEEPER,), history).append(1)
        states_after((KEEPER,), history).clear()
        self.assertEqual(run_row((KEEPER,), history), [ACCEPT])
        self.assertEqual(states_after((KEEPER,), history), [(KEY, (-1,))])


if __name__ == "__main__":
    unittest.main()
