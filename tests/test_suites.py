"""Point 20.3: suites."""

import random
import unittest

from gatewarden.books import rule_places
from gatewarden.needed import hidden_rules
from gatewarden.suites import covered, is_suite, suite_of
from gatewarden.views import is_history
from tests.bookhelp import B
from tests.historyhelp import ALL, KEEPER, NOTHING, changed_book, late_book, living_book, plain_run, random_history, small_fields

OPENING = (0, 6, 9, 7, 4, 80, 1, 0, 20)
ANSWER = (1, 6, 4, 80, 9, 7, 1, 0, 20)


def plain_covered(book, histories):
    """The places met, walk by walk."""
    found = set()
    for history in histories:
        _, walks, _ = plain_run((book,), history)
        for seen in walks:
            for _, _, _, met in seen:
                found.update(met)
    return sorted(found)


def plain_is_suite(book, histories):
    hidden = hidden_rules(book)
    wanted = [place for place in rule_places(book) if place not in hidden]
    if plain_covered(book, histories) != wanted:
        return False
    return all(plain_covered(book, histories[:k] + histories[k + 1:]) != wanted for k in range(len(histories)))


class Covered(unittest.TestCase):
    def test_plain_histories(self):
        self.assertEqual(covered(B, []), [])
        self.assertEqual(covered(B, [()]), [])
        self.assertEqual(covered(B, [(OPENING,)]), [(0, 1), (1, 0)])
        self.assertEqual(covered(B, [(OPENING, ANSWER)]), [(0, 0), (0, 1), (1, 0)])
        # Each history has a gate of its own.
        self.assertEqual(covered(B, [(OPENING,), (ANSWER,)]), [(0, 1), (1, 0)])
        self.assertEqual(covered(B, [(ANSWER,)]), [])
        self.assertEqual(covered(B, [(ANSWER,), (OPENING[:5] + (81,) + OPENING[6:],)]), [(0, 1)])
        self.assertEqual(covered(ALL, [(OPENING,)]), [])

    def test_by_chance(self):
        source = random.Random(431)
        for _ in range(120):
            fields = small_fields(source)
            book = source.choice((living_book, late_book))(source, fields)
            histories = [random_history(source, [book], 8) for _ in range(source.randint(0, 3))]
            found = covered(book, histories)
            self.assertEqual(found, plain_covered(book, histories))
            self.assertIs(type(found), list)


class Suites(unittest.TestCase):
    def test_books_without_rules(self):
        for book in (ALL, NOTHING):
            self.assertEqual(suite_of(book), [])
            self.assertIs(is_suite(book, []), True)
            self.assertIs(is_suite(book, [()]), False)
            self.assertIs(is_suite(book, [(OPENING,)]), False)

    def test_document_book(self):
        self.assertIs(is_suite(B, []), False)
        self.assertIs(is_suite(B, [(OPENING, ANSWER)]), True)
        self.assertIs(is_suite(B, [(OPENING,)]), False)
        self.assertIs(is_suite(B, [(OPENING, ANSWER), (OPENING,)]), False)
        self.assertIs(is_suite(B, [(OPENING, ANSWER), (OPENING, ANSWER)]), False)
        self.assertIs(is_suite(B, [(OPENING, ANSWER), ()]), False)
        self.assertIs(is_suite(B, suite_of(B)), True)
        self.assertIs(is_suite(KEEPER, suite_of(KEEPER)), True)

    def test_hidden_rules(self):
        book = (("main", (((), ("drop",)), ((("kind", ((6, 6),)),), ("accept",))), ("drop",)), ("other", (((), ("accept",)),), ("drop",)))
        self.assertEqual(hidden_rules(book), [(0, 1), (1, 0)])
        self.assertIs(is_suite(book, [(OPENING,)]), True)
        self.assertEqual(len(suite_of(book)), 1)
        never = (("main", (((("talk", ((2, 5),)),), ("accept",)),), ("drop",)),)
        self.assertEqual(suite_of(never), [])
        self.assertIs(is_suite(never, []), True)

    def test_histories_that_only_together_suffice(self):
        book = (("main", (((("interface", ((0, 0),)),), ("count", 1)), ((("interface", ((1, 1),)),), ("count", 2)),
                          ((("kind", ((6, 6),)),), ("count", 3))), ("drop",)),)
        other = (1, 17, 4, 80, 9, 7, 0, 0, 20)
        self.assertIs(is_suite(book, [(OPENING,), (other,)]), True)
        self.assertIs(is_suite(book, [(OPENING,), (ANSWER,)]), True)
        self.assertIs(is_suite(book, [(OPENING,), (other,), (ANSWER,)]), False)
        self.assertIs(is_suite(book, [(other,), (ANSWER,)]), False)
        self.assertIs(is_suite(book, [(OPENING, other)]), True)

    def test_by_chance(self):
        source = random.Random(432)
        answers = {True: 0, False: 0}
        sizes = {}
        for _ in range(40):
            fields = small_fields(source)
            book = source.choice((living_book, late_book, late_book))(source, fields)
            book = changed_book(source, book, fields)
            suite = suite_of(book)
            self.assertIs(type(suite), list)
            self.assertTrue(all(is_history(history) for history in suite))
            self.assertIs(is_suite(book, suite), True)
            self.assertIs(plain_is_suite(book, suite), True)
            sizes[len(suite)] = True
            for k in range(len(suite)):
                self.assertIs(is_suite(book, suite[:k] + suite[k + 1:]), False)
                self.assertIs(is_suite(book, suite + [suite[k]]), False)
            for _ in range(5):
                extra = random_history(source, [book], 10)
                for other in ([extra], suite + [extra], suite[1:] + [extra], [extra] + suite[1:]):
                    before = list(other)
                    wanted = plain_is_suite(book, other)
                    self.assertIs(is_suite(book, other), wanted)
                    self.assertEqual(other, before)
                    answers[wanted] += 1
            joined = [tuple(sight for history in suite for sight in history)]
            self.assertIs(is_suite(book, joined), plain_is_suite(book, joined))
            answers[plain_is_suite(book, joined)] += 1
        self.assertGreater(len(sizes), 2)
        self.assertGreater(min(answers.values()), 10, answers)


if __name__ == "__main__":
    unittest.main()
