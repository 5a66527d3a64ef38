"""Points 11.1 and 11.4: double books."""

import itertools
import random
import unittest

from gatewarden.books import is_book
from gatewarden.doubles import book_at, double_of, is_double, switches
from gatewarden.errors import TooMany, Unlike
from tests.bookhelp import B, random_book, random_fields
from tests.doublehelp import plain_book_at, random_double
from tests.helpers import Trap, nested, odd_values, resized, spoilt
from tests.historyhelp import ACCEPT, DROP, KEEPER

TCP = (("kind", ((6, 6),)),)
NEAR = (("dport", ((80, 80),)),)
D = (
    ("main", ((TCP, ("jump", "inner"), "old"), (NEAR, ACCEPT, "both"), (TCP, ("count", 3), "new")), (DROP, ("refuse", 1))),
    ("inner", ((NEAR, ("back",), "new"),), (ACCEPT, ACCEPT)),
    ("last", (), (("back",), DROP)),
)


def of_rules(*whens, default=(DROP, DROP)):
    """A double book with one chain, whose rules have some texts."""
    return (("main", tuple(((("sport", ((k, k),)),), ACCEPT, when) for k, when in enumerate(whens)), default),)


def thrown_sets(many):
    return [thrown for size in range(many + 1) for thrown in itertools.combinations(range(many), size)]


class IsDouble(unittest.TestCase):
    def test_doubles(self):
        self.assertIs(is_double(D), True)
        self.assertEqual(switches(D), 5)
        source = random.Random(191)
        for _ in range(100):
            self.assertIs(is_double(random_double(source, 6)), True)

    def test_numbers_of_switches(self):
        for many in range(9):
            double = of_rules(*(["old", "new", "new"] * 3)[:many], "both", "both")
            self.assertEqual(switches(double), many)
            self.assertIs(is_double(double), many <= 6, many)
            double = of_rules(*(["old", "both", "new"] * 4)[:many], default=(DROP, ACCEPT))
            count = switches(double)
            self.assertIs(is_double(double), count <= 6, many)
        chains = tuple((word, (), (DROP, ACCEPT)) for word in "abcdef")
        self.assertEqual(switches(chains), 6)
        self.assertIs(is_double(chains), True)
        seven = (("a", (((), DROP, "old"),), (DROP, ACCEPT)),) + chains[1:]
        self.assertEqual(switches(seven), 7)
        self.assertIs(is_double(seven), False)

    def test_no_switch(self):
        double = of_rules("both", "both")
        self.assertEqual(switches(double), 0)
        self.assertIs(is_double(double), True)
        self.assertEqual(book_at(double, ()), tuple(
            (word, tuple(rule[:2] for rule in rules), default) for word, rules, (default, _) in double))

    def test_twenty_one_rules(self):
        for whens, wanted in [
            (["both"] * 20, True), (["both"] * 21, False), (["both"] * 19 + ["old", "new"], False),
            (["both"] * 19 + ["old"], True), (["both"] * 20 + ["old"], False), (["both"] * 20 + ["new"], False),
            (["both"] * 18 + ["old", "new"], True), (["both"] * 17 + ["old", "old", "new"], True),
            (["both"] * 17 + ["old", "old", "new", "new"], False), (["both"] * 14 + ["new"] * 6, True),
            (["both"] * 15 + ["new"] * 6, False), (["both"] * 15 + ["old"] * 3 + ["new"] * 3, False),
        ]:
            self.assertIs(is_double(of_rules(*whens)), wanted, whens)

    def test_jumps(self):
        for when in ("both", "old", "new"):
            for word, wanted in [("inner", True), ("main", False), ("none", False), ("last", True)]:
                double = (("main", (((), ("jump", word), when),), (DROP, DROP)), ("inner", (), (DROP, DROP)),
                          ("last", (), (DROP, DROP)))
                self.assertIs(is_double(double), wanted, (when, word))
            double = (("main", (), (DROP, DROP)), ("inner", (((), ("jump", "main"), when),), (DROP, DROP)))
            self.assertIs(is_double(double), False)

    def test_ways_back(self):
        for when in ("both", "old", "new"):
            self.assertIs(is_double((("main", (((), ("back",), when),), (DROP, DROP)),)), False)
            self.assertIs(is_double((("main", (), (DROP, DROP)), ("b", (((), ("back",), when),), (DROP, DROP)))), True)
        for defaults in [(("back",), DROP), (DROP, ("back",)), (("back",), ("back",))]:
            self.assertIs(is_double((("main", (), defaults),)), False)
            self.assertIs(is_double((("main", (), (DROP, DROP)), ("b", (), defaults))), True)

    def test_chains(self):
        for many in range(8):
            chains = tuple((word, (), (DROP, DROP)) for word in "abcdefg"[:many])
            self.assertIs(is_double(chains), 1 <= many <= 6)
        self.assertIs(is_double((("a", (), (DROP, DROP)), ("a", (), (DROP, DROP)))), False)
        for word in ("", "A", "abcdefghijklm", "a1", None, 3, ("a",), Trap()):
            self.assertIs(is_double(((word, (), (DROP, DROP)),)), False)

    def test_other_texts(self):
        for when in ("Both", "", "olds", "news", "either", None, 1, True, b"old", ("old",), Trap()):
            self.assertIs(is_double((("main", (((), DROP, when),), (DROP, DROP)),)), False)

    def test_defaults(self):
        for defaults in [DROP, (DROP,), (DROP, DROP, DROP), [DROP, DROP], (), None, (DROP, None), (("mark", 1), DROP),
                         (DROP, ("count", 1)), (("jump", "a"), DROP), ("drop", "drop"), (["drop"], DROP), (Trap(), Trap())]:
            self.assertIs(is_double((("main", (), defaults),)), False)

    def test_books_are_no_double_books(self):
        for book in (B, KEEPER, (("main", (), DROP),)):
            self.assertIs(is_double(book), False)

    def test_any_value(self):
        for value in odd_values():
            self.assertIs(is_double(value), False)
            self.assertIs(is_double((value,)), False)
            self.assertIs(is_double((("main", value, (DROP, DROP)),)), False)
            self.assertIs(is_double((("main", (value,), (DROP, DROP)),)), False)
            self.assertIs(is_double((("main", (), value),)), False)
            self.assertIs(is_double((("main", (((), value, "old"),), (DROP, DROP)),)), False)
            self.assertIs(is_double((("main", ((value, DROP, "old"),), (DROP, DROP)),)), False)
        for value in spoilt(D):
            self.assertIs(is_double(value), False, value)
        for chain in resized(D[0]):
            self.assertIs(is_double((chain,) + D[1:]), False)
        for rule in resized(D[0][1][0]):
            self.assertIs(is_double((("main", (rule,), (DROP, DROP)),) + D[1:]), False)
        self.assertIs(is_double(nested(D, 150)), False)


class BookAt(unittest.TestCase):
    def test_by_hand(self):
        self.assertEqual(book_at(D, ()), (
            ("main", ((TCP, ("jump", "inner")), (NEAR, ACCEPT)), DROP), ("inner", (), ACCEPT), ("last", (), ("back",))))
        self.assertEqual(book_at(D, (0, 1, 2, 3, 4)), (
            ("main", ((NEAR, ACCEPT), (TCP, ("count", 3))), ("refuse", 1)), ("inner", ((NEAR, ("back",)),), ACCEPT),
            ("last", (), DROP)))
        self.assertEqual(book_at(D, (1,))[0], (
            "main", ((TCP, ("jump", "inner")), (NEAR, ACCEPT), (TCP, ("count", 3))), DROP))
        self.assertEqual(book_at(D, (0, 2))[0], ("main", ((NEAR, ACCEPT),), ("refuse", 1)))
        self.assertEqual(book_at(D, (3,))[1], ("inner", ((NEAR, ("back",)),), ACCEPT))
        self.assertEqual(book_at(D, (4,))[2], ("last", (), DROP))

    def test_all_tuples(self):
        source = random.Random(192)
        for _ in range(100):
            double = random_double(source, 6)
            many = switches(double)
            self.assertIs(type(many), int)
            for thrown in thrown_sets(many):
                book, count = plain_book_at(double, thrown)
                self.assertEqual(count, many)
                self.assertEqual(book_at(double, thrown), book)
                self.assertIs(is_book(book), True)


def shortest_lists(old, new):
    """All shortest lists in which two tuples of rules can be written, each as its rules and texts."""
    if not old and not new:
        return [((), ())]
    found = []
    if old and new and old[0] == new[0]:
        found += [((old[0],) + rules, ("both",) + texts) for rules, texts in shortest_lists(old[1:], new[1:])]
    if old:
        found += [((old[0],) + rules, ("old",) + texts) for rules, texts in shortest_lists(old[1:], new)]
    if new:
        found += [((new[0],) + rules, ("new",) + texts) for rules, texts in shortest_lists(old, new[1:])]
    fewest = min(len(rules) for rules, _ in found)
    return [pair for pair in found if len(pair[0]) == fewest]


def rule(k):
    return ((("sport", ((k, k),)),), ACCEPT)


class DoubleOf(unittest.TestCase):
    def test_equal_books(self):
        for book in (B, KEEPER):
            double = double_of(book, book)
            self.assertEqual(switches(double), 0)
            self.assertEqual(book_at(double, ()), book)

    def texts(self, old, new):
        [(word, rules, defaults)] = double_of(
            (("main", tuple(rule(k) for k in old), DROP),), (("main", tuple(rule(k) for k in new), DROP),))
        self.assertEqual((word, defaults), ("main", (DROP, DROP)))
        return [(conditions[0][1][0][0], when) for conditions, _, when in rules]

    def test_put_in_and_taken_out(self):
        self.assertEqual(self.texts([1, 2], [1, 3, 2]), [(1, "both"), (3, "new"), (2, "both")])
        self.assertEqual(self.texts([1, 3, 2], [1, 2]), [(1, "both"), (3, "old"), (2, "both")])
        self.assertEqual(self.texts([], [1, 2]), [(1, "new"), (2, "new")])
        self.assertEqual(self.texts([1, 2], []), [(1, "old"), (2, "old")])
        self.assertEqual(self.texts([1], [2]), [(2, "new"), (1, "old")])
        self.assertEqual(self.texts([1, 2], [3, 4]), [(3, "new"), (4, "new"), (1, "old"), (2, "old")])

    def test_turned(self):
        # Both 1 and 2 could be common; the text `new` stands before `old`.
        self.assertEqual(self.texts([1, 2], [2, 1]), [(2, "new"), (1, "both"), (2, "old")])
        self.assertEqual(self.texts([2, 1], [1, 2]), [(1, "new"), (2, "both"), (1, "old")])
        self.assertEqual(self.texts([1, 2, 3], [2, 3, 1]), [(1, "old"), (2, "both"), (3, "both"), (1, "new")])

    def test_doubled(self):
        self.assertEqual(self.texts([1], [1, 1]), [(1, "both"), (1, "new")])
        self.assertEqual(self.texts([1, 1, 2], [1, 2]), [(1, "both"), (1, "old"), (2, "both")])
        self.assertEqual(self.texts([1, 1], [1, 2, 1]), [(1, "both"), (2, "new"), (1, "both")])

    def test_defaults(self):
        old, new = (("main", (), DROP), ("b", (), ("back",))), (("main", (), ("refuse", 1)), ("b", (), ACCEPT))
        double = double_of(old, new)
        self.assertEqual(double, (("main", (), (DROP, ("refuse", 1))), ("b", (), (("back",), ACCEPT))))
        self.assertEqual(switches(double), 2)

    def test_against_all_lists(self):
        source = random.Random(193)
        for _ in range(300):
            chains = []
            for _ in range(2):
                chains.append([[rule(source.randint(1, 3)) for _ in range(source.randint(0, 4))] for _ in range(2)])
            old = tuple((word, tuple(rules), DROP) for word, rules in zip("ab", chains[0]))
            new = tuple((word, tuple(rules), DROP) for word, rules in zip("ab", chains[1]))
            wanted = []
            for k in range(2):
                lists = shortest_lists(old[k][1], new[k][1])
                texts = min(texts for _, texts in lists)
                [rules] = {rules for rules, other in lists if other == texts}
                wanted.append(tuple(told + (when,) for told, when in zip(rules, texts)))
            if sum(when != "both" for rules in wanted for _, _, when in rules) > 6:
                with self.assertRaises(TooMany):
                    double_of(old, new)
                continue
            double = double_of(old, new)
            self.assertEqual([rules for _, rules, _ in double], wanted)

    def test_the_books_come_back(self):
        source = random.Random(194)
        told = 0
        for _ in range(200):
            fields = random_fields(source, 3, 2)
            old = random_book(source, 5, fields, 2)
            new = list(old)
            for _ in range(source.randint(0, 3)):
                i = source.randrange(2)
                word, rules, default = new[i]
                rules = list(rules)
                if rules and source.random() < 0.5:
                    rules.insert(source.randint(0, len(rules) - 1), rules.pop(source.randrange(len(rules))))
                elif rules and source.random() < 0.5:
                    rules.pop(source.randrange(len(rules)))
                else:
                    default = source.choice((ACCEPT, DROP))
                new[i] = (word, tuple(rules), default)
            new = tuple(new)
            double = double_of(old, new)
            self.assertIs(is_double(double), True)
            many = switches(double)
            self.assertEqual(book_at(double, ()), old)
            self.assertEqual(book_at(double, tuple(range(many))), new)
            told += many > 1
        self.assertGreater(told, 30)

    def test_unlike(self):
        for old, new in itertools.permutations([
            (("a", (), DROP),), (("b", (), DROP),), (("a", (), DROP), ("b", (), DROP)), (("b", (), DROP), ("a", (), DROP)),
        ], 2):
            with self.assertRaises(Unlike):
                double_of(old, new)

    def test_too_many(self):
        def book(numbers, default=DROP):
            return (("main", tuple(rule(k) for k in numbers), default),)

        for old, new, wanted in [
            ([], range(6), True), ([], range(7), False), (range(6), [], True), (range(7), [], False),
            ([1, 2, 3], [4, 5, 6], True), ([1, 2, 3], [4, 5, 6, 7], False), (range(20), range(20), True),
            (range(20), range(1, 20), True), (range(20), range(1, 21), False), (range(19), range(1, 20), True),
            (range(18), [*range(18), 30, 31], True), (range(19), [30, *range(1, 19), 31], False),
        ]:
            if wanted:
                self.assertIs(is_double(double_of(book(old), book(new))), True)
            else:
                with self.assertRaises(TooMany):
                    double_of(book(old), book(new))
        self.assertEqual(switches(double_of(book([1, 2, 3]), book([4, 5], ACCEPT))), 6)
        with self.assertRaises(TooMany):
            double_of(book([1, 2, 3]), book([4, 5, 6], ACCEPT))

    def test_unlike_comes_ahead(self):
        old, new = (("a", tuple(rule(k) for k in range(9)), DROP),), (("b", (), DROP),)
        with self.assertRaises(Unlike):
            double_of(old, new)
        with self.assertRaises(Unlike):
            double_of(old, old + (("b", (), DROP),))


if __name__ == "__main__":
    unittest.main()
