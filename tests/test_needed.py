"""Points 10.2 and 10.3: hidden and needless rules, least books."""

import itertools
import random
import unittest

from gatewarden.books import is_book, rule_places, without_rule
from gatewarden.needed import hidden_rules, least_book, needless_rules
from gatewarden.questions import alike
from tests.bookhelp import B
from tests.historyhelp import ACCEPT, ALL, DROP, KEEPER, NOTHING, late_book, living_book, plain_shortest, small_fields


def of_rules(*rules, default=DROP):
    return (("main", tuple(rules), default),)


def sport(low, high, action=ACCEPT):
    return ((("sport", ((low, high),)),), action)


def talk(low, high, action=ACCEPT):
    return ((("talk", ((low, high),)),), action)


def left_of(book, places):
    """The book with the rules at some places alone."""
    for place in rule_places(book)[::-1]:
        if place not in places:
            book = without_rule(book, place)
    return book


def plain_alike(book, other):
    return plain_shortest(("part", (book,), (other,))) is None


class ByHand(unittest.TestCase):
    def check(self, book, hidden, needless, fewest):
        self.assertIs(is_book(book), True)
        self.assertEqual(hidden_rules(book), hidden)
        self.assertEqual(needless_rules(book), needless)
        least = least_book(book)
        self.assertEqual(len(rule_places(least)), fewest)
        self.assertIs(alike((least,), (book,)), True)

    def test_all_needed(self):
        self.check(B, [], [], 3)
        self.check(KEEPER, [], [], 2)
        self.check(ALL, [], [], 0)

    def test_hidden_by_one(self):
        self.check(of_rules(sport(5, 9), sport(6, 7, ("refuse", 1))), [(0, 1)], [(0, 1)], 1)
        self.check(of_rules(sport(5, 9), sport(6, 10, ("refuse", 1))), [], [], 2)
        self.check(of_rules(((), DROP), sport(5, 9)), [(0, 1)], [(0, 1)], 0)

    def test_hidden_by_several_together(self):
        book = of_rules(sport(1, 5), sport(6, 9), sport(3, 7, ("refuse", 1)), sport(9, 9))
        self.check(book, [(0, 2), (0, 3)], [(0, 2), (0, 3)], 2)
        # What is hidden may do the work of those before it.
        book = of_rules(sport(1, 5), sport(6, 9), sport(1, 9))
        self.check(book, [(0, 2)], [(0, 0), (0, 1), (0, 2)], 1)

    def test_hidden_by_a_mark(self):
        book = of_rules(((), ("mark", 4)), ((("mark", ((0, 3),)),), ACCEPT), ((("mark", ((4, 4),)),), ("refuse", 1)))
        self.check(book, [(0, 1)], [(0, 1)], 2)

    def test_hidden_behind_jumps(self):
        chain = ("far", (sport(5, 9), sport(7, 7, ("refuse", 1))), ("back",))
        book = (("main", (((("sport", ((7, 7),)),), ("jump", "far")), sport(7, 9)), DROP), chain)
        self.assertEqual(hidden_rules(book), [(1, 1)])
        self.assertEqual(needless_rules(book), [(0, 0), (1, 1)])
        self.check((("main", (), DROP), chain), [(1, 0), (1, 1)], [(1, 0), (1, 1)], 0)

    def test_no_state_reaches_it(self):
        # No talk is opened, so no code above 1 is seen, but wrong moves are.
        book = of_rules(talk(2, 5, ("refuse", 1)), talk(6, 6, ("refuse", 2)))
        self.check(book, [(0, 0)], [(0, 0)], 1)
        # Talks are opened from inside, but never answered.
        book = of_rules(((("interface", ((0, 0),)), ("talk", ((1, 2),))), ACCEPT), talk(3, 3, ("refuse", 1)),
                        talk(5, 5), talk(4, 4))
        self.assertEqual(hidden_rules(book), [(0, 2), (0, 3)])
        book = of_rules(((("interface", ((0, 0),)), ("side", ((0, 0),)), ("talk", ((1, 2),))), ACCEPT), talk(3, 3, ("refuse", 1)))
        self.check(book, [(0, 1)], [(0, 1)], 1)

    def test_needless_but_not_hidden(self):
        self.check(of_rules(sport(5, 9, DROP)), [], [(0, 0)], 0)
        self.check(of_rules(sport(5, 9), sport(1, 7), sport(1, 10)), [], [(0, 0), (0, 1)], 1)
        self.check(of_rules(((), ("count", 3)), ((), ("mark", 3))), [], [(0, 0), (0, 1)], 0)
        self.check(of_rules(talk(2, 5), ((), ACCEPT), default=("refuse", 1)), [], [(0, 0)], 1)

    def test_needless_but_not_together(self):
        book = of_rules(sport(1, 9), sport(1, 9))
        self.check(book, [(0, 1)], [(0, 0), (0, 1)], 1)
        book = of_rules(sport(1, 5), sport(3, 9), sport(1, 3), sport(4, 9))
        self.assertEqual(hidden_rules(book), [(0, 2), (0, 3)])
        self.assertEqual(needless_rules(book), [(0, 0), (0, 1), (0, 2), (0, 3)])
        self.assertEqual(len(rule_places(least_book(book))), 2)

    def test_many_rules(self):
        rules = [sport(10 * k, 10 * k + 9) for k in range(4)] + [sport(10 * k, 10 * k + 19) for k in range(4)]
        book = of_rules(*rules)
        self.assertEqual(hidden_rules(book), [(0, 4), (0, 5), (0, 6)])
        self.assertEqual(needless_rules(book), [(0, k) for k in range(7)])
        self.assertEqual(len(rule_places(least_book(book))), 3)

    def test_books_without_rules(self):
        for book in (NOTHING, ALL, (("main", (), ("refuse", 4)), ("b", (), ("back",)))):
            self.check(book, [], [], 0)
            self.assertEqual(least_book(book), book)

    def test_kinds_of_values(self):
        self.assertIs(type(hidden_rules(B)), list)
        self.assertIs(type(needless_rules(B)), list)
        self.assertIs(is_book(least_book(B)), True)
        found = hidden_rules(of_rules(((), DROP), ((), DROP)))
        self.assertEqual((found, type(found[0])), ([(0, 1)], tuple))


class ByChance(unittest.TestCase):
    def books(self, seed, many, rules):
        source = random.Random(seed)
        for _ in range(many):
            fields = small_fields(source)
            make = source.choice((living_book, late_book))
            yield make(source, fields, rules)

    def test_hidden(self):
        found = 0
        for book in self.books(161, 80, 5):
            places = rule_places(book)
            wanted = [place for place in places if plain_shortest(("meet", book, place)) is None]
            self.assertEqual(hidden_rules(book), wanted)
            found += 0 < len(wanted) < len(places)
        self.assertGreater(found, 10)

    def test_needless(self):
        found = 0
        for book in self.books(162, 60, 5):
            wanted = [place for place in rule_places(book) if plain_alike(book, without_rule(book, place))]
            self.assertEqual(needless_rules(book), wanted)
            self.assertTrue(set(hidden_rules(book)) <= set(wanted))
            found += len(wanted) > len(hidden_rules(book))
        self.assertGreater(found, 5)

    def test_least_against_all_choices(self):
        found = {}
        for book in self.books(163, 50, 5):
            places = rule_places(book)
            least = least_book(book)
            self.assertTrue(plain_alike(book, least))
            fewest = min(
                len(left) for many in range(len(places) + 1) for left in itertools.combinations(places, many)
                if plain_alike(book, left_of(book, left)))
            self.assertEqual(len(rule_places(least)), fewest)
            choices = [left_of(book, left) for left in itertools.combinations(places, fewest)]
            self.assertIn(least, choices)
            found[len(places) - fewest] = found.get(len(places) - fewest, 0) + 1
        self.assertGreater(len(found), 3, found)


if __name__ == "__main__":
    unittest.main()
