"""Point 10.1: questions about all histories."""

import random
import unittest

from gatewarden.closing import paper_of
from gatewarden.questions import alike, breaks, ever, shortest
from gatewarden.views import FIELDS, TOPS
from tests.bookhelp import B, DECISIONS
from tests.historyhelp import (
    ACCEPT, ALL, DROP, KEEPER, NOTHING, changed_book, late_book, living_book, only, plain_shortest, random_watch, small_fields,
)


class ByHand(unittest.TestCase):
    def test_examples(self):
        self.assertIs(alike((B,), (B, B)), True)
        self.assertIs(ever((B,), (("interface", ((1, 1),)),), ("accept",)), True)
        self.assertEqual(shortest(("get", (B,), (("interface", ((1, 1),)),), ("accept",))), 2)

    def test_alike(self):
        self.assertIs(alike((B,), (B,)), True)
        self.assertIs(alike((B,), (KEEPER,)), False)
        self.assertIs(alike((ALL,), (ALL, ALL)), True)
        self.assertIs(alike((ALL, NOTHING), (NOTHING, ALL)), True)
        self.assertIs(alike((ALL,), (NOTHING,)), False)
        self.assertIs(alike((ALL, B), (B,)), True)
        self.assertIs(alike((ALL, B, ALL), (B,)), True)
        refuse = (("main", (), ("refuse", 3)),)
        self.assertIs(alike((refuse,), (NOTHING,)), False)
        # The packets from outside meet the drop first.
        self.assertIs(alike((refuse, NOTHING), (refuse,)), False)
        self.assertIs(alike((refuse, NOTHING), (NOTHING, refuse)), False)

    def test_books_that_differ_where_no_history_comes(self):
        # A rule for talks that were ended by the opener, in a book that lets none be opened.
        late = only(("talk", ((4, 4),)))
        self.assertIs(alike((late,), (NOTHING,)), True)
        self.assertIs(alike((late,), (ALL,)), False)
        # Equal addresses, ports of kinds without ports and lengths that are too small are in no sight.
        for conditions in [
            (("source", ((5, 5),)), ("destination", ((5, 5),))), (("kind", ((1, 5),)), ("sport", ((1, 65535),))),
            (("kind", ((6, 6),)), ("length", ((0, 19),))), (("code", ((1, 9),)), ("kind", ((2, 255),))),
            (("flags", ((1, 7),)), ("kind", ((7, 255),))), (("kind", ((17, 17),)), ("talk", ((4, 6),))),
            (("talk", ((0, 0),)), ("kind", ((6, 6),))), (("side", ((1, 1),)), ("talk", ((1, 1),))), (("length", ((0, 11),)),),
            (("flags", ((3, 3),)), ("talk", ((1, 5),))), (("kind", ((9, 9),)), ("talk", ((1, 6),))),
        ]:
            self.assertIs(alike((only(*conditions),), (NOTHING,)), True, conditions)
            self.assertIs(alike((only(*conditions, action=DROP, default=ACCEPT),), (ALL,)), True, conditions)

    def test_whole_ranges(self):
        # What all values of a field have is no condition.
        for field, top in zip(FIELDS, TOPS):
            self.assertIs(alike((only((field, ((0, top),))),), (ALL,)), True, field)
            self.assertIs(alike((only((field, ((0, top),)), action=("refuse", 1)),), (ALL,)), False, field)
            if field not in ("talk", "side"):
                self.assertIs(ever((ALL,), ((field, ((0, top),)),), DROP), False)

    def test_talks_that_are_opened_by_one_gate_alone(self):
        # Of long packets the inner gate alone takes notice; the outer one stops them.
        short = (("main", (((("length", ((101, 1500),)),), DROP),) + KEEPER[0][1], DROP),)
        # Three sights: a talk is opened, ended at the inner gate alone by a long packet, and ended once more.
        for first, second in [((KEEPER, short), (short, short)), ((KEEPER, short), (short,)), ((KEEPER, short), (short, KEEPER))]:
            watch = ("part", first, second)
            self.assertEqual(shortest(watch), 3)
            self.assertEqual(plain_shortest(watch), 3)
            self.assertIs(alike(first, second), False)
            [opening, ending, again] = paper_of(watch)[1]
            self.assertLess(opening[8], 101)
            self.assertGreater(ending[8], 100)
            self.assertLess(again[8], 101)
        for first, second in [((ALL, short), (short,)), ((short, ALL), (short, short)), ((short, short), (short,))]:
            self.assertIs(alike(first, second), True)
            self.assertIsNone(plain_shortest(("part", first, second)))
        refusing = (("main", KEEPER[0][1], ("refuse", 9)),)
        self.assertIs(alike((KEEPER, refusing), (refusing, KEEPER)), False)
        self.assertEqual(shortest(("part", (KEEPER, refusing), (refusing, KEEPER))), 1)

    def test_ever(self):
        self.assertIs(ever((NOTHING,), (), ACCEPT), False)
        self.assertIs(ever((NOTHING,), (), DROP), True)
        self.assertIs(ever((B,), (), ("refuse", 3)), True)
        self.assertIs(ever((B,), (("dport", ((80, 80),)),), ("refuse", 3)), False)
        self.assertIs(ever((B,), (("dport", ((80, 80),)), ("interface", ((0, 0),))), ("refuse", 3)), False)
        self.assertIs(ever((B,), (("kind", ((1, 1),)),), ACCEPT), False)
        self.assertIs(ever((ALL,), (("kind", ()),), ACCEPT), False)
        self.assertIs(ever((ALL,), (("kind", ((17, 17),)), ("flags", ((1, 7),))), ACCEPT), False)
        self.assertIs(ever((KEEPER,), (("flags", ((6, 6),)),), ACCEPT), True)
        self.assertIs(ever((KEEPER,), (("flags", ((7, 7),)),), ACCEPT), False)
        self.assertIs(ever((KEEPER, B), (("flags", ((2, 2),)), ("interface", ((1, 1),))), ACCEPT), True)
        self.assertIs(ever((NOTHING, B), (("interface", ((1, 1),)),), ("refuse", 3)), False)

    def test_breaks(self):
        self.assertIs(breaks(B, B), False)
        self.assertIs(breaks(B, NOTHING), True)
        self.assertIs(breaks(NOTHING, B), False)
        self.assertIs(breaks(ALL, KEEPER), False)
        self.assertIs(breaks(KEEPER, ALL), False)
        self.assertIs(breaks(ALL, only(("talk", ((1, 5),)))), False)
        self.assertIs(breaks(ALL, only(("talk", ((1, 4),)))), True)
        # No stream goes on with flags 7, so nothing is broken by this.
        self.assertIs(breaks(ALL, only(("flags", ((7, 7),)), action=DROP, default=ACCEPT)), False)
        self.assertIs(breaks(ALL, only(("flags", ((6, 6),)), action=DROP, default=ACCEPT)), True)
        self.assertIs(breaks(only(("kind", ((1, 1),))), NOTHING), False)

    def test_shortest(self):
        for code, fewest in [(1, 1), (2, 2), (3, 3), (4, 4), (5, 4), (6, 1)]:
            late = (("main", (((("talk", ((code, code),)),), ("refuse", 1)),), ACCEPT),)
            self.assertEqual(shortest(("meet", late, (0, 0))), fewest, code)
            self.assertEqual(shortest(("part", (late,), (ALL,))), fewest, code)
            self.assertEqual(shortest(("get", (ALL, late), (), ("refuse", 1))), fewest, code)
            if 1 < code < 6:
                self.assertEqual(shortest(("break", ALL, late)), fewest, code)
            else:
                self.assertIsNone(shortest(("break", ALL, late)))
        self.assertIsNone(shortest(("part", (B,), (B, B))))
        self.assertIs(type(shortest(("part", (ALL,), (B,)))), int)

    def test_the_shortest_of_several_lanes(self):
        # Early for one address, late for the others; the first lane that is looked at has the late one.
        for early in (0, 7, 65535):
            book = (("main", (
                ((("source", ((early, early),)), ("talk", ((2, 2),)), ("kind", ((6, 6),))), ("refuse", 1)),
                ((("talk", ((5, 5),)),), ("refuse", 1)),
            ), ACCEPT),)
            self.assertEqual(shortest(("get", (book,), (), ("refuse", 1))), 2)
            self.assertEqual(shortest(("get", (book,), (("source", ((1, 6),)), ("destination", ((1, 6),))), ("refuse", 1))), 4)


class ByChance(unittest.TestCase):
    def test_against_a_search(self):
        source = random.Random(151)
        found = {}
        for _ in range(500):
            watch = random_watch(source)
            fewest = plain_shortest(watch)
            self.assertEqual(shortest(watch), fewest)
            if watch[0] == "part":
                self.assertIs(alike(watch[1], watch[2]), fewest is None)
            elif watch[0] == "get":
                self.assertIs(ever(*watch[1:]), fewest is not None)
            elif watch[0] == "break":
                self.assertIs(breaks(*watch[1:]), fewest is not None)
            found[(watch[0], fewest)] = found.get((watch[0], fewest), 0) + 1
        for word in ("part", "get", "break", "meet"):
            self.assertIn((word, None), found)
            self.assertGreater(sum(many for (other, fewest), many in found.items() if other == word and (fewest or 0) > 1), 2, found)

    def test_rows_of_two_gates(self):
        source = random.Random(152)
        answers = {True: 0, False: 0}
        for _ in range(120):
            fields = small_fields(source)
            book = source.choice((living_book, late_book))(source, fields)
            other = changed_book(source, book, fields)
            for first, second in [((book, other), (book,)), ((book, book), (book,)), ((book, KEEPER), (KEEPER,))]:
                wanted = plain_shortest(("part", first, second)) is None
                self.assertIs(alike(first, second), wanted)
                self.assertIs(alike(second, first), wanted)
                answers[wanted] += 1
        self.assertGreater(min(answers.values()), 40, answers)

    def test_papers_and_answers_agree(self):
        source = random.Random(153)
        for _ in range(60):
            watch = random_watch(source, 2)
            paper = paper_of(watch)
            self.assertEqual(shortest(watch), None if paper[0] == "closed" else len(paper[1]))

    def test_decisions_that_no_book_has(self):
        for decision in DECISIONS + [("refuse", 77)]:
            self.assertIs(ever((ALL, ALL), (), decision), decision == ACCEPT)
            self.assertIs(ever((ALL, NOTHING), (), decision), decision == DROP)


if __name__ == "__main__":
    unittest.main()
