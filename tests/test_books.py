"""Points 4.1 to 4.3 and 4.5: books and single changes of them."""

import random
import unittest

from gatewarden.books import is_book, rule_places, with_default, with_rule, without_rule
from gatewarden.errors import BadBook, NoPlace
from gatewarden.views import FIELDS, TOPS
from tests.bookhelp import B, random_book
from tests.helpers import Trap, nested, odd_values, resized, spoilt

DROP = ("drop",)
RULE = ((), ("accept",))
ACTIONS = [
    ("accept",), ("drop",), ("refuse", 0), ("refuse", 255), ("mark", 0), ("mark", 255), ("count", 0), ("count", 99),
]
NO_ACTIONS = [
    (), ("accept", 1), ("drop", ()), ("refuse",), ("refuse", 256), ("refuse", -1), ("refuse", True), ("refuse", 1.0),
    ("refuse", "3"), ("refuse", 3, 3), ("mark",), ("mark", 256), ("mark", -1), ("mark", False), ("count", 100),
    ("count", -1), ("count",), ("count", 1, 2), ("jump",), ("jump", 3), ("jump", ""), ("back", 1), ("pass",),
    ("Accept",), (" drop",), ("",), ["accept"], "accept", None, 0, (0,), ("mark", None), ("count", (1,)),
    (("accept",),), (b"accept",), (True,), ("jump", "nowhere"), ("jump", "main"), ("jump", None),
    ("jump", "b", "b"), ("jump", Trap()), ("mark", Trap()), (Trap(),), (Trap(), 3),
]


def of_rule(rule):
    """The book with one chain and one rule."""
    return (("main", (rule,), DROP),)


class IsBook(unittest.TestCase):
    def test_books(self):
        self.assertIs(is_book(B), True)
        self.assertIs(is_book((("main", (), DROP),)), True)
        source = random.Random(71)
        for _ in range(200):
            self.assertIs(is_book(random_book(source)), True)

    def test_chains(self):
        chains = tuple((word, (), DROP) for word in ("a", "b", "c", "d", "e", "f", "g"))
        for many in range(8):
            self.assertIs(is_book(chains[:many]), 1 <= many <= 6, many)
        self.assertIs(is_book((("a", (), DROP), ("b", (), DROP), ("a", (), DROP))), False)
        self.assertIs(is_book((("a", (), DROP), ("a", (), ("accept",)))), False)

    def test_rules(self):
        for many in (0, 1, 19, 20, 21, 40):
            self.assertIs(is_book((("main", (RULE,) * many, DROP),)), many <= 20, many)
            self.assertIs(is_book((("main", (), DROP), ("b", (RULE,) * many, DROP))), many <= 20, many)
        full = tuple((word, (RULE,) * 20, DROP) for word in "abcdef")
        self.assertIs(is_book(full), True)

    def test_conditions(self):
        condition = ("kind", ((6, 6),))
        for many in range(7):
            self.assertIs(is_book(of_rule(((condition,) * many, DROP))), many <= 4, many)

    def test_words(self):
        for word, right in [
            ("a", True), ("z", True), ("abcdefghijkl", True), ("abcdefghijklm", False), ("", False), ("A", False),
            ("a1", False), ("a b", False), ("a_b", False), ("{", False), ("`", False), ("main\n", False), (b"main", False),
            (None, False), (7, False), (("m",), False), ("\u00e9", False),
        ]:
            self.assertIs(is_book(((word, (), DROP),)), right, word)
            if type(word) is str:
                book = (("q", (((), ("jump", word)),), DROP), (word, (), DROP))
                self.assertIs(is_book(book), right, word)

    def test_tops(self):
        for field, top in list(zip(FIELDS, TOPS)) + [("mark", 255)]:
            for a, right in [
                ((), True), (((0, 0),), True), (((top, top),), True), (((0, top),), True), (((top + 1, top + 1),), False),
                (((0, top + 1),), False), (((0, 0), (top + 1, top + 1)), False), (((-1, 0),), False),
            ]:
                self.assertIs(is_book(of_rule((((field, a),), DROP))), right, (field, a))

    def test_conditions_of_other_forms(self):
        good = ("sport", ((5, 9),))
        self.assertIs(is_book(of_rule(((good,), DROP))), True)
        for condition in [
            ("sport",), ("sport", ((5, 9),), 1), ("Sport", ((5, 9),)), ("port", ((5, 9),)), ("", ()), (3, ((5, 9),)),
            ("sport", ((9, 5),)), ("sport", ((5, 9), (10, 11))), ("sport", [(5, 9)]), ("sport", ([5, 9],)),
            ("sport", ((5, True),)), ("sport", ((False, True),)), ("sport", 5), ("sport", (5, 9)), ["sport", ((5, 9),)],
            ("sport", None), (Trap(), ((5, 9),)), ("sport", Trap()), ("sport", ((Trap(), Trap()),)), None, "sport", (),
        ]:
            self.assertIs(is_book(of_rule(((condition,), DROP))), False)
            self.assertIs(is_book(of_rule(((good, condition), DROP))), False)

    def test_actions(self):
        for action in ACTIONS:
            self.assertIs(is_book(of_rule(((), action))), True, action)
        for action in NO_ACTIONS:
            self.assertIs(is_book(of_rule(((), action))), False)
            self.assertIs(is_book((("main", (), DROP), ("b", (((), action),), DROP))), False)

    def test_defaults(self):
        for default in [("accept",), ("drop",), ("refuse", 0), ("refuse", 255)]:
            self.assertIs(is_book((("main", (), default),)), True)
            self.assertIs(is_book((("main", (), DROP), ("b", (), default))), True)
        self.assertIs(is_book((("main", (), DROP), ("b", (), ("back",)))), True)
        self.assertIs(is_book((("main", (), ("back",)),)), False)
        self.assertIs(is_book((("main", (), ("back",)), ("b", (), ("back",)))), False)
        for default in [("mark", 1), ("count", 1), ("jump", "b")] + NO_ACTIONS:
            self.assertIs(is_book((("main", (), default), ("b", (), DROP))), False)
            self.assertIs(is_book((("main", (), DROP), ("b", (), default), ("c", (), DROP))), False)

    def test_back(self):
        rule = ((), ("back",))
        self.assertIs(is_book((("main", (rule,), DROP), ("b", (), DROP))), False)
        self.assertIs(is_book((("main", (), DROP), ("b", (rule,), DROP))), True)

    def test_jumps(self):
        words = ("a", "b", "c")
        for start in range(3):
            for word in ("a", "b", "c", "d"):
                rule = ((), ("jump", word))
                book = tuple((words[i], (rule,) if i == start else (), DROP) for i in range(3))
                right = word in words[start + 1:]
                self.assertIs(is_book(book), right, (start, word))
        for value in odd_values() + [("b",), ["b"], b"b"]:
            self.assertIs(is_book((("a", (((), ("jump", value)),), DROP), ("b", (), DROP))), False)

    def test_any_value(self):
        for value in odd_values():
            self.assertIs(is_book(value), False)
            self.assertIs(is_book((value,)), False)
            self.assertIs(is_book((("main", value, DROP),)), False)
            self.assertIs(is_book((("main", (value,), DROP),)), False)
            self.assertIs(is_book((("main", (), value),)), False)
            self.assertIs(is_book(of_rule(((), value))), False)
            self.assertIs(is_book(of_rule((value, DROP))), False)
        marked = (("main", (((("mark", ((0, 1),)),), ("mark", 1)), ((), ("count", 0)), ((), ("refuse", 1))), DROP),)
        for book in (B, marked):
            self.assertIs(is_book(book), True)
            for value in spoilt(book):
                self.assertIs(is_book(value), False, value)
        for chain in resized(B[0]):
            self.assertIs(is_book((chain, B[1])), False, chain)
        for rule in resized(RULE):
            self.assertIs(is_book(of_rule(rule)), False, rule)
        self.assertIs(is_book(nested(B, 150)), False)
        self.assertIs(is_book(of_rule((nested((), 150), DROP))), False)


class Places(unittest.TestCase):
    def test_rule_places(self):
        self.assertEqual(rule_places(B), [(0, 0), (0, 1), (1, 0)])
        self.assertEqual(rule_places((("main", (), DROP),)), [])
        book = (("a", (), DROP), ("b", (RULE,) * 12, DROP), ("c", (RULE,), DROP))
        self.assertEqual(rule_places(book), [(1, k) for k in range(12)] + [(2, 0)])

    def test_without_rule(self):
        main, inner = B
        self.assertEqual(without_rule(B, (0, 0)), (("main", main[1][1:], DROP), inner))
        self.assertEqual(without_rule(B, (0, 1)), (("main", main[1][:1], DROP), inner))
        self.assertEqual(without_rule(B, (1, 0)), (main, ("inner", (), ("refuse", 3))))
        for place in [(0, 2), (0, 3), (1, 1), (2, 0), (0, -1), (-1, 0), (-2, -1), (1, -1), (5, 5), (2, -1)]:
            with self.assertRaises(NoPlace, msg=place):
                without_rule(B, place)

    def test_with_rule(self):
        main, inner = B
        new = ((("kind", ((6, 6),)),), ("count", 7))
        for k in range(3):
            rules = list(main[1])
            rules.insert(k, new)
            self.assertEqual(with_rule(B, (0, k), new), (("main", tuple(rules), DROP), inner))
        self.assertEqual(with_rule(B, (1, 1), new), (main, ("inner", inner[1] + (new,), ("refuse", 3))))
        self.assertEqual(with_rule(B, (1, 0), new), (main, ("inner", (new,) + inner[1], ("refuse", 3))))
        for place in [(0, 3), (0, -1), (-1, 0), (1, 2), (2, 0), (-2, 0), (0, 100), (1, -1), (-1, 3)]:
            with self.assertRaises(NoPlace, msg=place):
                with_rule(B, place, new)

    def test_with_rule_that_is_none(self):
        for rule in [((), ("back",)), ((), ("jump", "main")), ((), ("jump", "none")), [(), DROP], ((), DROP, 1)]:
            with self.assertRaises(BadBook):
                with_rule(B, (0, 0), rule)
        for rule in odd_values():
            with self.assertRaises(BadBook):
                with_rule(B, (1, 1), rule)
        with self.assertRaises(BadBook):
            with_rule(B, (1, 0), ((), ("jump", "inner")))
        self.assertIs(is_book(with_rule(B, (1, 0), ((), ("back",)))), True)
        self.assertIs(is_book(with_rule(B, (0, 2), ((), ("jump", "inner")))), True)

    def test_no_place_comes_ahead(self):
        for rule in odd_values():
            with self.assertRaises(NoPlace):
                with_rule(B, (0, 3), rule)
        for default in odd_values():
            with self.assertRaises(NoPlace):
                with_default(B, "outer", default)

    def test_full_chain(self):
        book = (("main", (RULE,) * 20, DROP),)
        for k in (0, 10, 20):
            with self.assertRaises(BadBook):
                with_rule(book, (0, k), RULE)
        with self.assertRaises(NoPlace):
            with_rule(book, (0, 21), RULE)
        self.assertEqual(len(without_rule(book, (0, 19))[0][1]), 19)
        self.assertEqual(with_rule(without_rule(book, (0, 19)), (0, 19), RULE), book)

    def test_with_default(self):
        main, inner = B
        self.assertEqual(with_default(B, "main", ("accept",)), (("main", main[1], ("accept",)), inner))
        self.assertEqual(with_default(B, "inner", ("back",)), (main, ("inner", inner[1], ("back",))))
        self.assertEqual(with_default(B, "inner", ("refuse", 255)), (main, ("inner", inner[1], ("refuse", 255))))
        for word in ("outer", "a", "mai", "maini"):
            with self.assertRaises(NoPlace):
                with_default(B, word, DROP)
        for default in [("back",), ("mark", 1), ("count", 1), ("jump", "inner"), ("refuse", 256)] + odd_values():
            with self.assertRaises(BadBook):
                with_default(B, "main", default)
        for default in [("mark", 1), ("jump", "main"), ["back"]]:
            with self.assertRaises(BadBook):
                with_default(B, "inner", default)

    def test_the_book_stays(self):
        before = repr(B)
        without_rule(B, (0, 1))
        with_rule(B, (1, 0), RULE)
        with_default(B, "main", ("accept",))
        self.assertEqual(repr(B), before)


if __name__ == "__main__":
    unittest.main()
