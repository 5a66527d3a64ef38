"""Point 4.4: the walk through a book."""

import random
import unittest

from gatewarden.books import is_book
from gatewarden.walking import decide, walk
from tests.bookhelp import B, ends_in, plain_walk, random_book, random_view

ZERO = (0,) * 11


def view(**fields):
    """A tuple of zeros but for some fields."""
    names = ["interface", "kind", "source", "sport", "destination", "dport", "flags", "code", "length", "talk", "side"]
    return tuple(fields.get(name, 0) for name in names)


class Walks(unittest.TestCase):
    def test_examples(self):
        self.assertEqual(
            walk(B, (0, 6, 9, 7, 4, 80, 1, 0, 20, 1, 0)), (("accept",), 0, (), ((0, 1), (1, 0))))
        self.assertEqual(walk(B, (0, 6, 9, 7, 4, 81, 1, 0, 20, 1, 0)), (("refuse", 3), 0, (), ((0, 1),)))
        self.assertEqual(walk(B, (0, 6, 9, 7, 4, 80, 1, 0, 20, 2, 0)), (("accept",), 0, (), ((0, 0),)))
        self.assertEqual(walk(B, (0, 6, 9, 7, 4, 80, 1, 0, 20, 6, 0)), (("drop",), 0, (), ()))

    def test_defaults_of_all_chains(self):
        book = (
            ("a", (((("kind", ((1, 1),)),), ("jump", "b")), ((("kind", ((2, 2),)),), ("jump", "c"))), ("accept",)),
            ("b", (), ("refuse", 1)),
            ("c", (), ("back",)),
        )
        self.assertEqual(walk(book, view(kind=0)), (("accept",), 0, (), ()))
        self.assertEqual(walk(book, view(kind=1)), (("refuse", 1), 0, (), ((0, 0),)))
        self.assertEqual(walk(book, view(kind=2)), (("accept",), 0, (), ((0, 1),)))

    def test_ways_back(self):
        book = (
            ("a", (((), ("jump", "b")), ((), ("count", 9)), ((), ("jump", "b")), ((), ("count", 8))), ("drop",)),
            ("b", (((), ("jump", "c")), ((("kind", ((1, 1),)),), ("back",)), ((), ("count", 1))), ("back",)),
            ("c", (((), ("count", 2)),), ("back",)),
        )
        self.assertIs(is_book(book), True)
        found = walk(book, view(kind=1))
        self.assertEqual(found[2], (2, 9, 2, 8))
        self.assertEqual(found[3], (
            (0, 0), (1, 0), (2, 0), (1, 1), (0, 1), (0, 2), (1, 0), (2, 0), (1, 1), (0, 3)))
        self.assertEqual(walk(book, view(kind=2))[2], (2, 1, 9, 2, 1, 8))

    def test_back_behind_the_last_rule(self):
        book = (("a", (((), ("jump", "b")),), ("refuse", 7)), ("b", (((), ("back",)),), ("accept",)))
        self.assertEqual(walk(book, ZERO), (("refuse", 7), 0, (), ((0, 0), (1, 0))))

    def test_marks(self):
        book = (("a", (
            ((("mark", ((0, 0),)), ("kind", ((6, 6),))), ("mark", 4)),
            ((("mark", ((0, 0),)),), ("mark", 255)),
            ((("mark", ((4, 4),)),), ("mark", 5)),
            ((("mark", ((4, 5),)),), ("accept",)),
        ), ("drop",)),)
        self.assertEqual(walk(book, view(kind=6)), (("accept",), 5, (), ((0, 0), (0, 2), (0, 3))))
        self.assertEqual(walk(book, view(kind=7)), (("drop",), 255, (), ((0, 1),)))

    def test_marks_stay_through_jumps(self):
        book = (
            ("a", (((), ("jump", "b")), ((("mark", ((3, 3),)),), ("accept",))), ("drop",)),
            ("b", (((("side", ((1, 1),)),), ("mark", 3)),), ("back",)),
        )
        self.assertEqual(walk(book, view(side=1)), (("accept",), 3, (), ((0, 0), (1, 0), (0, 1))))
        self.assertEqual(walk(book, view(side=0)), (("drop",), 0, (), ((0, 0),)))

    def test_counts(self):
        book = (("a", (
            ((), ("count", 0)), ((), ("count", 99)), ((("kind", ()),), ("count", 5)), ((), ("count", 0)),
            ((), ("accept",)), ((), ("count", 1)),
        ), ("drop",)),)
        self.assertEqual(walk(book, ZERO), (("accept",), 0, (0, 99, 0), ((0, 0), (0, 1), (0, 3), (0, 4))))

    def test_no_conditions_and_empty_sets(self):
        self.assertEqual(decide((("a", (((), ("accept",)),), ("drop",)),), ZERO), ("accept",))
        self.assertEqual(decide((("a", (((("kind", ()),), ("accept",)),), ("drop",)),), ZERO), ("drop",))
        self.assertEqual(decide((("a", (), ("refuse", 255)),), ZERO), ("refuse", 255))

    def test_each_field_counts(self):
        names = ["interface", "kind", "source", "sport", "destination", "dport", "flags", "code", "length", "talk", "side"]
        for name in names:
            book = (("a", ((((name, ((1, 1),)),), ("accept",)),), ("drop",)),)
            for other in names:
                self.assertEqual(decide(book, view(**{other: 1})), ("accept",) if other == name else ("drop",))

    def test_against_a_walk_chain_within_chain(self):
        source = random.Random(72)
        seen = set()
        for _ in range(400):
            book = random_book(source)
            ends = ends_in(book)
            for _ in range(10):
                at = random_view(source, ends)
                found = walk(book, at)
                self.assertEqual(found, plain_walk(book, at), (book, at))
                self.assertEqual(decide(book, at), found[0])
                seen.update(book[i][1][k][1][0] for i, k in found[3])
        self.assertEqual(seen, {"accept", "drop", "refuse", "jump", "back", "mark", "count"})

    def test_six_chains(self):
        words = "abcdef"
        book = tuple(
            (words[i], tuple(((), ("jump", words[i + 1])) for _ in range(2)) if i < 5 else (((), ("count", 3)),),
             ("back",) if i else ("accept",)) for i in range(6))
        self.assertIs(is_book(book), True)
        found = walk(book, ZERO)
        self.assertEqual(found[2], (3,) * 32)
        self.assertEqual(found[0], ("accept",))


if __name__ == "__main__":
    unittest.main()
