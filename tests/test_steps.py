"""Points 11.2 and 11.3: what stays between two books, and changes in steps."""

import itertools
import random
import unittest

from gatewarden.doubles import book_at, is_double, switches
from gatewarden.steps import between, check_steps, smooth_orders, step_paper
from gatewarden.talks import view_of
from gatewarden.views import is_sight
from tests.bookhelp import B, DECISIONS, plain_walk
from tests.doublehelp import (
    BLOCKED, STATES, blocked_double, few_fields, is_plain_smooth, plain_between, plain_book_at, plain_good_sets, random_double,
)
from tests.helpers import Trap, nested, odd_values, resized, spoilt
from tests.historyhelp import ACCEPT, ALL, DROP, KEEPER, NOTHING, changed_book, late_book, living_book, only

REFUSE = (("main", (), ("refuse", 1)),)
NEAR = (("dport", ((80, 80),)),)
FAR = (("dport", ((443, 443),)),)

# Two edits that do each other no harm.
FREE = (("main", ((NEAR, ACCEPT, "old"), (FAR, ACCEPT, "new")), (DROP, DROP)),)
# Near packets are accepted by either rule; between, they may be dropped, so the new one comes first.
SWAP = (("main", ((NEAR, ACCEPT, "old"), ((("dport", ((80, 443),)),), ACCEPT, "new")), (DROP, DROP)),)
# The new drop is behind the old one; it has to come before the old one goes.
LATER = (("main", (((), DROP, "old"), ((), DROP, "new")), (ACCEPT, ACCEPT)),)
# The accept in the middle has to go, and the new drop to come, before the old drop goes.
MIDDLE = (("main", (((), DROP, "old"), ((), ACCEPT, "old"), ((), DROP, "new")), (("refuse", 9), ("refuse", 9))),)


def is_state_of(sight, state):
    return type(state) is int and state in STATES.get(sight[1], [0])


def is_plain_right(double, value):
    """Point 11.3 word by word, for papers of the right form."""
    many = switches(double)
    whole = tuple(range(many))
    books = {}
    for size in range(many + 1):
        for thrown in itertools.combinations(range(many), size):
            books[thrown] = plain_book_at(double, thrown)[0]
    if value[0] == "order":
        return tuple(sorted(value[1])) == whole and is_plain_smooth(value[1], plain_good_sets(double, many))
    _, sets, stops = value
    for told in (sets, stops):
        if list(told) != sorted(set(told)):
            return False
    if () not in sets or whole in sets or not all(thrown in books for thrown in sets):
        return False
    stopped = set()
    for thrown, number, (sight, state) in stops:
        if thrown not in books or number not in whole or number in thrown or not is_state_of(sight, state):
            return False
        view = view_of(sight, state)
        decision = plain_walk(books[tuple(sorted(thrown + (number,)))], view)[0]
        if decision in (plain_walk(books[()], view)[0], plain_walk(books[whole], view)[0]):
            return False
        stopped.add((thrown, number))
    return all(
        number in thrown or tuple(sorted(thrown + (number,))) in sets or (thrown, number) in stopped
        for thrown in sets for number in whole)


class Between(unittest.TestCase):
    def check(self, a, b, c, wanted):
        found = between(a, b, c)
        self.assertIs(found is None, wanted, (a, b, c, found))
        if found is not None:
            self.assertIs(type(found), tuple)
            sight, state = found
            self.assertIs(is_sight(sight), True)
            self.assertTrue(is_state_of(sight, state))
            view = view_of(sight, state)
            self.assertNotIn(plain_walk(c, view)[0], (plain_walk(a, view)[0], plain_walk(b, view)[0]))

    def test_by_hand(self):
        for a, b, c, wanted in [
            (ALL, NOTHING, ALL, True), (ALL, NOTHING, NOTHING, True), (ALL, NOTHING, KEEPER, True), (ALL, NOTHING, REFUSE, False),
            (ALL, ALL, ALL, True), (ALL, ALL, KEEPER, False), (KEEPER, ALL, B, False), (REFUSE, NOTHING, ALL, False),
            (KEEPER, KEEPER, KEEPER, True), (KEEPER, B, KEEPER, True), (KEEPER, B, B, True), (B, B, KEEPER, False),
            (REFUSE, ALL, only(NEAR[0], default=("refuse", 1)), True), (REFUSE, ALL, only(NEAR[0], default=("refuse", 2)), False),
        ]:
            self.check(a, b, c, wanted)
            self.check(b, a, c, wanted)

    def test_views_that_no_sight_has(self):
        for conditions in [
            (("source", ((5, 5),)), ("destination", ((5, 5),))), (("kind", ((1, 5),)), ("sport", ((1, 65535),))),
            (("kind", ((6, 6),)), ("length", ((0, 19),))), (("kind", ((17, 17),)), ("length", ((0, 17),))),
            (("kind", ((1, 1),)), ("length", ((0, 15),))), (("length", ((0, 11),)),), (("code", ((1, 9),)), ("kind", ((2, 255),))),
            (("flags", ((1, 7),)), ("kind", ((7, 255),))), (("kind", ((17, 17),)), ("talk", ((4, 6),))),
            (("talk", ((0, 0),)), ("kind", ((6, 6),))), (("side", ((1, 1),)), ("talk", ((1, 1),))),
            (("flags", ((3, 3),)), ("talk", ((1, 5),))), (("kind", ((9, 9),)), ("talk", ((1, 6),))),
            (("talk", ((2, 2),)), ("flags", ((0, 0),)), ("kind", ((6, 6),))), (("kind", ((18, 255),)), ("side", ((1, 1),))),
            (("talk", ((3, 3),)), ("flags", ((1, 1),))), (("mark", ((1, 255),)),),
        ]:
            self.check(ALL, ALL, only(*conditions, action=DROP, default=ACCEPT), True)
            self.check(NOTHING, NOTHING, only(*conditions), True)

    def test_views_that_some_sight_has(self):
        for conditions in [
            (("source", ((5, 6),)), ("destination", ((5, 6),))), (("source", ((5, 5),)), ("destination", ((5, 6),))),
            (("source", ((5, 6),)), ("destination", ((5, 5),))), (("source", ((5, 5),)), ("destination", ((4, 5),))),
            (("kind", ((1, 1),)), ("code", ((65535, 65535),))), (("kind", ((5, 6),)), ("sport", ((1, 1),))),
            (("kind", ((17, 17),)), ("talk", ((3, 3),)), ("side", ((1, 1),))), (("talk", ((5, 5),)), ("side", ((1, 1),))),
            (("talk", ((5, 5),)), ("side", ((0, 0),)), ("flags", ((2, 2),))), (("talk", ((6, 6),)), ("side", ((1, 1),))),
            (("length", ((12, 12),)),), (("length", ((1500, 1500),)), ("kind", ((17, 17),))), (("kind", ((0, 0),)),),
            (("kind", ((255, 255),)),), (("flags", ((7, 7),)),), (("talk", ((2, 2),)), ("flags", ((4, 4),)), ("side", ((1, 1),))),
            (("kind", ((6, 6),)), ("length", ((20, 20),)), ("interface", ((1, 1),))),
        ]:
            self.check(ALL, ALL, only(*conditions, action=DROP, default=ACCEPT), False)
            self.check(NOTHING, NOTHING, only(*conditions), False)

    def test_equal_addresses_beside_others(self):
        # Wherever the search begins, equal addresses must not end it.
        for equal in (0, 5, 65535):
            for source, destination in [(5, 6), (0, 65535), (65535, 0), (4, 9)]:
                rules = tuple(
                    ((("source", ((one, one),)), ("destination", ((other, other),))), DROP)
                    for one, other in [(equal, equal), (source, destination)])
                self.check(ALL, ALL, (("main", rules, ACCEPT),), False)
                self.check(ALL, ALL, (("main", rules[:1], ACCEPT),), True)

    def test_states_that_no_history_leads_to(self):
        # No history of a gate with this book has a talk, but all states count.
        late = only(("talk", ((4, 4),)))
        self.check(NOTHING, NOTHING, late, False)
        sight, state = between(NOTHING, NOTHING, late)
        self.assertEqual((sight[1], abs(state)), (6, 3))

    def test_against_all_views(self):
        source = random.Random(201)
        answers = {True: 0, False: 0}
        for _ in range(150):
            fields = few_fields(source)
            a = source.choice((living_book, late_book))(source, fields, 3)
            b, c = changed_book(source, a, fields), changed_book(source, a, fields)
            if source.random() < 0.5:
                c = changed_book(source, b, fields)
            wanted = plain_between(a, b, c)
            self.check(a, b, c, wanted)
            answers[wanted] += 1
        self.assertGreater(min(answers.values()), 30, answers)


class Papers(unittest.TestCase):
    def test_by_hand(self):
        for double, word, many in [(FREE, "order", 2), (SWAP, "order", 1), (LATER, "order", 1), (MIDDLE, "order", 2),
                                   (BLOCKED, "none", 0)]:
            self.assertIs(is_double(double), True)
            paper = step_paper(double)
            self.assertEqual((paper[0], smooth_orders(double)), (word, many), double)
            self.assertIs(check_steps(double, paper), True)
        self.assertEqual(step_paper(SWAP), ("order", (1, 0)))
        self.assertIs(check_steps(SWAP, ("order", (0, 1))), False)
        self.assertEqual(step_paper(LATER), ("order", (1, 0)))

    def test_blocked(self):
        word, sets, stops = step_paper(BLOCKED)
        self.assertEqual((word, sets), ("none", ((),)))
        self.assertEqual([stop[:2] for stop in stops], [((), 0), ((), 1)])
        self.assertTrue(is_plain_right(BLOCKED, (word, sets, stops)))
        for order in [(0, 1), (1, 0)]:
            self.assertIs(check_steps(BLOCKED, ("order", order)), False)

    def test_no_switch(self):
        double = (("main", (((), DROP, "both"),), (ACCEPT, ACCEPT)),)
        self.assertEqual(step_paper(double), ("order", ()))
        self.assertEqual(smooth_orders(double), 1)
        self.assertIs(check_steps(double, ("order", ())), True)
        for value in [("none", ((),), ()), ("none", (), ()), ("order", (0,)), ("order",), ("order", (), ())]:
            self.assertIs(check_steps(double, value), False)

    def test_one_switch(self):
        double = (("main", (((), DROP, "old"),), (ACCEPT, ACCEPT)),)
        self.assertEqual(step_paper(double), ("order", (0,)))
        self.assertEqual(smooth_orders(double), 1)
        self.assertIs(check_steps(double, ("none", ((),), ())), False)

    def test_six_switches(self):
        rules = tuple(((("dport", ((k, k),)),), ACCEPT, ("old", "new")[k % 2]) for k in range(6))
        double = (("main", rules, (DROP, DROP)),)
        self.assertEqual(switches(double), 6)
        self.assertEqual(smooth_orders(double), 720)
        for order in [(0, 1, 2, 3, 4, 5), (5, 4, 3, 2, 1, 0), (2, 4, 0, 1, 5, 3)]:
            self.assertIs(check_steps(double, ("order", order)), True)
        self.assertEqual(step_paper(double)[0], "order")

    def test_against_all_orders(self):
        source = random.Random(202)
        words = {}
        for k in range(120):
            double = blocked_double(source) if k % 4 == 0 else random_double(source, 4)
            many = switches(double)
            good = plain_good_sets(double, many)
            orders = [order for order in itertools.permutations(range(many)) if is_plain_smooth(order, good)]
            self.assertEqual(smooth_orders(double), len(orders))
            self.assertIs(type(smooth_orders(double)), int)
            for order in itertools.permutations(range(many)):
                self.assertIs(check_steps(double, ("order", order)), order in orders)
            paper = step_paper(double)
            self.assertEqual(paper[0], "order" if orders else "none")
            self.assertIs(check_steps(double, paper), True)
            if orders:
                self.assertEqual(len(paper), 2)
                self.assertIn(paper[1], orders)
            else:
                self.assertEqual(len(paper), 3)
                self.assertTrue(is_plain_right(double, paper))
            words[paper[0]] = words.get(paper[0], 0) + 1
        self.assertGreater(words.get("none", 0), 3, words)
        self.assertGreater(words.get("order", 0), 30, words)

    def test_papers_are_made_of_tuples(self):
        for double in (BLOCKED, FREE):
            waiting = [step_paper(double)]
            while waiting:
                value = waiting.pop()
                self.assertIn(type(value), (tuple, int, str))
                if type(value) is tuple:
                    waiting.extend(value)


def blocked_doubles(seed, many):
    """Double books by chance without a smooth order, with their told papers."""
    source = random.Random(seed)
    found = [(BLOCKED, step_paper(BLOCKED))]
    while len(found) < many:
        double = blocked_double(source)
        paper = step_paper(double)
        if paper[0] == "none":
            found.append((double, paper))
    return source, found


class OtherPapers(unittest.TestCase):
    def test_changed_sets_and_stops(self):
        source, found = blocked_doubles(203, 12)
        answers = {True: 0, False: 0}
        for double, (_, sets, stops) in found:
            many = switches(double)
            others = [thrown for size in range(many + 1) for thrown in itertools.combinations(range(many), size)]
            values = []
            for k in range(len(sets)):
                values.append((sets[:k] + sets[k + 1:], stops))
            for k in range(len(stops)):
                values.append((sets, stops[:k] + stops[k + 1:]))
                thrown, number, (sight, state) = stops[k]
                values.append((sets, stops[:k] + (stops[k],) + stops[k:]))
                for stop in [(thrown, number, (sight, -state)), (thrown, number, (sight, state + 1)), (thrown, number + 1, stops[k][2]),
                             (thrown + (number,), number, stops[k][2]), (thrown, number, (sight[:8] + (sight[8] + 1,), state)),
                             (thrown, number, ((1 - sight[0],) + sight[1:], state))]:
                    values.append((sets, tuple(sorted(stops[:k] + (stop,) + stops[k + 1:]))))
                    values.append((sets, tuple(sorted(stops + (stop,)))))
            for thrown in others:
                values.append((tuple(sorted(set(sets) | {thrown})), stops))
                # With all stops that there are for this set, more sets are closed as well.
                more = [(thrown, number, stop[2]) for number in range(many) for stop in stops if number not in thrown]
                values.append((tuple(sorted(set(sets) | {thrown})), tuple(sorted(set(stops) | set(more)))))
            values += [(sets[::-1], stops), (sets, stops[::-1]), (sets + sets[-1:], stops), ((), stops), (sets, ())]
            for sets_told, stops_told in values:
                value = ("none", sets_told, stops_told)
                wanted = is_plain_right(double, value)
                self.assertIs(check_steps(double, value), wanted, value)
                answers[wanted] += 1
        self.assertGreater(min(answers.values()), 30, answers)

    def test_more_stops_with_one_set_and_switch(self):
        word, sets, stops = step_paper(BLOCKED)
        thrown, number, (sight, state) = stops[0]
        for other in [(sight[:8] + (1500,), state), ((1 - sight[0],) + sight[1:], state), ((0, 40, 1, 0, 2, 0, 0, 0, 30), 0)]:
            more = tuple(sorted({*stops, (thrown, number, other)}))
            self.assertIs(check_steps(BLOCKED, (word, sets, more)), True)
        self.assertIs(check_steps(BLOCKED, (word, sets, tuple(sorted({*stops, (thrown, number, ((0, 40, 1, 0, 2, 0, 0, 0, 30), 1))})))), False)

    def test_states(self):
        word, sets, stops = step_paper(BLOCKED)
        thrown, number, _ = stops[0]
        for sight in [(0, 6, 9, 7, 4, 80, 1, 0, 20), (1, 17, 9, 7, 4, 80, 0, 0, 18), (1, 1, 9, 0, 4, 0, 0, 3, 30)]:
            for state in range(-6, 7):
                value = (word, sets, ((thrown, number, (sight, state)),) + stops[1:])
                wanted = state in STATES.get(sight[1], [0])
                self.assertIs(check_steps(BLOCKED, value), wanted, (sight, state))
            for state in (None, True, False, 0.0, "0", (0,)):
                value = (word, sets, ((thrown, number, (sight, state)),) + stops[1:])
                self.assertIs(check_steps(BLOCKED, value), False)
        for sight in [(0, 6, 9, 7, 9, 80, 1, 0, 20), (0, 6, 9, 7, 4, 80, 8, 0, 20), (0, 6, 9, 7, 4, 80, 1, 0, 19), (0, 6), None, ()]:
            self.assertIs(check_steps(BLOCKED, (word, sets, ((thrown, number, (sight, 0)),) + stops[1:])), False)

    def test_the_tuple_of_all(self):
        double = SWAP
        sight = (0, 6, 9, 7, 4, 80, 1, 0, 20)
        stop = ((), 0, (sight, 0))
        self.assertTrue(is_plain_right(double, ("none", ((), (1,)), (stop,))) is False)
        for value in [("none", ((), (1,)), (stop,)), ("none", ((), (0, 1), (1,)), (stop,)), ("none", ((), (0, 1)), (stop,)),
                      ("none", ((),), (stop,)), ("none", ((), (0,), (1,)), ())]:
            self.assertIs(check_steps(double, value), False)

    def test_tuples_of_switches(self):
        word, sets, stops = step_paper(BLOCKED)
        self.assertEqual((sets, switches(BLOCKED)), (((),), 2))
        pair = stops[0][2]
        sight = (0, 6, 9, 7, 4, 80, 1, 0, 20)
        # With a switch 2, which is not there, all of these would be closed and stopped.
        for more_sets, more_stops in [
            (((1, 0),), ()), (((2,),), (((2,), 0, pair), ((2,), 1, pair))), ((), (((0,), 2, pair),)), ((), (((1,), 2, pair),)),
            (((0, 0),), (((0, 0), 1, (sight, 0)),)), ((), (((1, 0), 2, pair),)), (((-1,),), (((-1,), 0, pair), ((-1,), 1, pair))),
            ((), (((), -1, pair),)), ((), (((2,), 0, pair),)), ((), (((0,), 0, pair),)), (((0, 1),), ()),
        ]:
            value = (word, tuple(sorted(sets + more_sets)), tuple(sorted(stops + more_stops)))
            self.assertIs(check_steps(BLOCKED, value), False, value)
        self.assertIs(check_steps(BLOCKED, (word, sets, stops)), True)

    def test_orders(self):
        for value, wanted in [
            ((0, 1), True), ((1, 0), True), ((0,), False), ((), False), ((0, 0), False), ((0, 1, 1), False), ((1, 2), False),
            ((0, 1, 2), False), ([0, 1], False), ((False, True), False), ((0, True), False), ((0.0, 1), False), ((-1, 0), False),
            ("01", False), (None, False), (((0, 1),), False), ((Trap(), 0), False), (("0", "1"), False),
        ]:
            self.assertIs(check_steps(FREE, ("order", value)), wanted, value)

    def test_any_value(self):
        for double in (BLOCKED, FREE):
            paper = step_paper(double)
            for value in odd_values():
                self.assertIs(check_steps(double, value), False)
                self.assertIs(check_steps(double, ("order", value)), False)
                self.assertIs(check_steps(double, (value,) + paper[1:]), type(value) is str and value == paper[0])
                self.assertIs(check_steps(double, ("none", value, ())), False)
                self.assertIs(check_steps(double, ("none", ((),), value)), False)
                self.assertIs(check_steps(double, ("none", ((), value), ())), False)
                self.assertIs(check_steps(double, ("none", ((),), (value,))), False)
                self.assertIs(check_steps(double, ("none", ((),), (((), 0, value),))), False)
                self.assertIs(check_steps(double, ("none", ((),), (((), value, ((0, 6, 9, 7, 4, 80, 1, 0, 20), 0)),))), False)
            for value in list(spoilt(paper)) + list(resized(paper)):
                self.assertIs(check_steps(double, value), False, value)
            for word in ("Order", "", "nothing", None, 1, True, b"none", ("none",), Trap()):
                self.assertIs(check_steps(double, (word,) + paper[1:]), False)
            self.assertIs(check_steps(double, nested(paper, 150)), False)
        word, sets, stops = step_paper(BLOCKED)
        for stop in resized(stops[0]):
            self.assertIs(check_steps(BLOCKED, (word, sets, (stop,) + stops[1:])), False)
        for pair in resized(stops[0][2]):
            self.assertIs(check_steps(BLOCKED, (word, sets, (stops[0][:2] + (pair,),) + stops[1:])), False)


class Books(unittest.TestCase):
    def test_double_books_of_the_tests(self):
        for double in (FREE, SWAP, LATER, MIDDLE, BLOCKED):
            whole = tuple(range(switches(double)))
            for thrown in ((), whole):
                self.assertEqual(book_at(double, thrown), plain_book_at(double, thrown)[0])
        self.assertIn(ACCEPT, DECISIONS)


if __name__ == "__main__":
    unittest.main()
