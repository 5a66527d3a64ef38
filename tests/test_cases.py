"""Points 20.1 and 20.2: the cases of books."""

import itertools
import random
import unittest

from gatewarden.books import is_book
from gatewarden.cases import cases_of, flattened
from gatewarden.errors import TooLong
from gatewarden.plans import plan_of
from gatewarden.walking import decide
from gatewarden.views import FIELDS, TOPS
from tests.bookhelp import B, corners, ends_in, holds, plain_walk, random_book, random_fields, random_view

ACCEPT, DROP = ("accept",), ("drop",)


def only(*conditions, action=ACCEPT, default=DROP):
    return (("main", ((conditions, action),), default),)


def plain_cases(book):
    """All ways through the plan as branches, put together by their targets, and told in the order of their branches."""
    nodes, root = plan_of(book)

    def ways(target):
        if isinstance(target, tuple):
            yield [], target
            return
        field, branches = nodes[target]
        for k, (_, lead) in enumerate(branches):
            if lead in [other for _, other in branches[:k]]:
                continue
            lows = [0] + [high + 1 for high, _ in branches]
            pairs = tuple((lows[i], branches[i][0]) for i in range(len(branches)) if branches[i][1] == lead)
            for rest, decision in ways(lead):
                yield [(FIELDS[field], pairs)] + rest, decision

    return [(tuple(way), decision) for way, decision in ways(root)]


class Cases(unittest.TestCase):
    def test_example(self):
        self.assertEqual(cases_of(only(("sport", ((5, 9),)))), [
            ((("sport", ((0, 4), (10, 65535))),), DROP), ((("sport", ((5, 9),)),), ACCEPT)])

    def test_one_decision(self):
        self.assertEqual(cases_of((("main", (), ("refuse", 9)),)), [((), ("refuse", 9))])
        self.assertEqual(cases_of(only(("sport", ((5, 9),)), action=DROP)), [((), DROP)])

    def test_branches_with_one_target(self):
        book = only(("source", ((1, 1), (3, 3), (5, 5), (65535, 65535))))
        self.assertEqual(cases_of(book), [
            ((("source", ((0, 0), (2, 2), (4, 4), (6, 65534))),), DROP), ((("source", ((1, 1), (3, 3), (5, 5), (65535, 65535))),), ACCEPT)])
        book = only(("source", ((0, 0), (2, 2))), ("side", ((1, 1),)))
        self.assertEqual(cases_of(book), [
            ((("source", ((0, 0), (2, 2))), ("side", ((0, 0),))), DROP), ((("source", ((0, 0), (2, 2))), ("side", ((1, 1),))), ACCEPT),
            ((("source", ((1, 1), (3, 65535))),), DROP)])

    def test_order_of_the_ways(self):
        book = (("main", (
            ((("interface", ((1, 1),)), ("talk", ((2, 3),))), ACCEPT), ((("interface", ((0, 0),)), ("kind", ((6, 6),))), ("refuse", 1)),
        ), DROP),)
        self.assertEqual(cases_of(book), [
            ((("interface", ((0, 0),)), ("kind", ((0, 5), (7, 255)))), DROP), ((("interface", ((0, 0),)), ("kind", ((6, 6),))), ("refuse", 1)),
            ((("interface", ((1, 1),)), ("talk", ((0, 1), (4, 6)))), DROP), ((("interface", ((1, 1),)), ("talk", ((2, 3),))), ACCEPT)])

    def test_against_the_plan(self):
        source = random.Random(421)
        for _ in range(300):
            book = random_book(source, 8, random_fields(source, source.randint(1, 5), 3))
            found = cases_of(book)
            self.assertEqual(found, plain_cases(book))
            self.assertIs(type(found), list)

    def test_one_case_holds(self):
        source = random.Random(422)
        for _ in range(120):
            book = random_book(source, 8, random_fields(source, 3, 2))
            cases = cases_of(book)
            views = corners(ends_in(book))
            views = source.sample(views, min(len(views), 40)) + [random_view(source, ends_in(book)) for _ in range(20)]
            for view in views:
                holding = [decision for conditions, decision in cases
                           if all(holds(a, view[FIELDS.index(field)]) for field, a in conditions)]
                self.assertEqual(holding, [plain_walk(book, view)[0]])


class Flattened(unittest.TestCase):
    def test_plain_books(self):
        self.assertEqual(flattened(only(("sport", ((5, 9),)))), only(("sport", ((0, 4), (10, 65535))), action=DROP, default=ACCEPT))
        self.assertEqual(flattened((("x", (), DROP),)), (("main", (), DROP),))
        found = flattened(B)
        self.assertEqual(plan_of(found), plan_of(B))
        self.assertEqual([chain[0] for chain in found], ["main"])

    def test_rules_are_the_cases(self):
        source = random.Random(423)
        done = {True: 0, False: 0}
        while min(done.values()) < 30:
            book = random_book(source, 8, random_fields(source, source.randint(3, 6), 3), 1)
            cases = plain_cases(book)
            last = cases[-1][1]
            wanted = (("main", tuple(case for case in cases if case[1] != last), last),)
            done[is_book(wanted)] += 1
            if is_book(wanted) and done[True] > 100:
                continue
            if is_book(wanted):
                self.assertEqual(flattened(book), wanted)
                self.assertEqual(plan_of(wanted), plan_of(book))
                for _ in range(10):
                    view = random_view(source, ends_in(book))
                    self.assertEqual(decide(wanted, view), decide(book, view))
            else:
                with self.assertRaises(TooLong):
                    flattened(book)

    def test_too_many_conditions(self):
        fields = ["interface", "kind", "source", "sport", "destination", "dport"]
        for many in (3, 4):
            # A way with many conditions to what the last case does not decide.
            conditions = tuple((field, ((0, 0),)) for field in fields[:many])
            book = only(*conditions)
            self.assertEqual(flattened(book)[0][1], ((conditions, ACCEPT),))
        # The last way of the plan is the long one: its decision is the default, the others are short enough or not.
        conditions = tuple((field, ((1, TOPS[FIELDS.index(field)]),)) for field in fields[:4])
        self.assertEqual(flattened(only(*conditions))[0][2], ACCEPT)
        found = flattened(only(*conditions))
        self.assertEqual([len(rule[0]) for rule in found[0][1]], [1, 2, 3, 4])
        # Two chains make five conditions on one way.
        longer = (("main", ((conditions[:2], ("jump", "more")),), DROP), ("more", ((tuple(
            (field, ((0, 0),)) for field in fields[2:5]), ACCEPT),), DROP))
        self.assertEqual(max(len(told) for told, _ in cases_of(longer)), 5)
        with self.assertRaises(TooLong):
            flattened(longer)
        # Five conditions on the way to the last case alone: the rules are short enough.
        last = (("main", ((conditions[:2], ("jump", "more")),), DROP), ("more", ((tuple(
            (field, ((1, 65535),)) for field in fields[2:5]), ACCEPT),), DROP))
        cases = cases_of(last)
        self.assertEqual(len(cases[-1][0]), 5)
        with self.assertRaises(TooLong):
            flattened(last)
        less = (("main", ((conditions[:2], ("jump", "more")),), DROP), ("more", ((tuple(
            (field, ((1, 65535),)) for field in fields[2:4]), ("jump", "end")),), DROP), ("end", ((((fields[4], ((1, 65535),)),), ACCEPT),), ACCEPT))
        self.assertEqual(plan_of(flattened(less)), plan_of(less))

    def test_too_many_rules(self):
        for many, wanted in [(20, True), (21, False)]:
            # So many codes of a refusal, each for one number of the source.
            chains = []
            words = "abcdef"
            numbers = list(range(many))
            for i in range(6):
                rules = tuple(((("source", ((2 * n, 2 * n),)),), ("refuse", n)) for n in numbers[4 * i:4 * i + 4])
                jump = (((), ("jump", words[i + 1])),) if i < 5 else ()
                chains.append((words[i], rules + jump, DROP))
            book = tuple(chains)
            self.assertIs(is_book(book), True)
            self.assertEqual(len(cases_of(book)), many + 1)
            cases = cases_of(book)
            self.assertEqual(cases[0][1], ("refuse", 0))
            left = [case for case in cases if case[1] != cases[-1][1]]
            if len(left) <= 20:
                self.assertEqual(flattened(book), (("main", tuple(left), cases[-1][1]),))
            else:
                with self.assertRaises(TooLong):
                    flattened(book)
            self.assertEqual(len(left) <= 20, wanted)

    def test_arguments_stay(self):
        for book in (B, only(("sport", ((5, 9),)))):
            found = cases_of(book)
            found.append(None)
            self.assertNotEqual(found, cases_of(book))
            self.assertEqual(list(itertools.islice(cases_of(book), 2)), found[:2])


if __name__ == "__main__":
    unittest.main()
