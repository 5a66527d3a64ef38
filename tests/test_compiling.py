"""Point 14.1: programs from books."""

import random
import unittest

from gatewarden.compiling import compiled
from gatewarden.errors import TooLong
from gatewarden.machine import is_program, run_program
from gatewarden.meaning import means
from gatewarden.plans import plan_of
from gatewarden.views import FIELDS, TOPS
from tests.bookhelp import B, ends_in, plain_walk, random_book, random_fields
from tests.meaninghelp import packet_near, some_views
from tests.test_machine import PACKETS

ACCEPT, DROP = ("accept",), ("drop",)
KINDS = {"sport": (6, 17), "dport": (6, 17), "flags": (6,), "code": (1,)}


def one_chain(*rules, default=DROP):
    return (("main", rules, default),)


def limit_of(book):
    nodes, _ = plan_of(book)
    return 20 * len(nodes) + 4 * sum(len(branches) for _, branches in nodes) + 8


def comb(field, ends):
    """A book whose plan has one node with a branch more than there are ends, with two decisions in turn."""
    pairs = tuple((ends[k], ends[k + 1] - 1) for k in range(0, len(ends) - 1, 2))
    if len(ends) % 2:
        pairs += ((ends[-1], TOPS[FIELDS.index(field)]),)
    return one_chain((((field, pairs),), ACCEPT))


class Compiled(unittest.TestCase):
    def check(self, book, packets):
        """The program of a book does for some packets and all their views what the book decides."""
        program = compiled(book)
        self.assertIs(is_program(program), True)
        self.assertLessEqual(len(program), limit_of(book))
        for packet in packets:
            for view in some_views(packet):
                result = run_program(program, packet, view)
                self.assertEqual(result[:2], ("answer", plain_walk(book, view)[0]), (book, packet, view))

    def near(self, source, book, many):
        return [packet_near(source, ends_in(book)) for _ in range(many)]

    def test_one_decision(self):
        for decision in (ACCEPT, DROP, ("refuse", 0), ("refuse", 255)):
            book = one_chain(default=decision)
            self.check(book, PACKETS)
            self.assertIs(means(compiled(book), book), True)
            # A book of many rules may decide the same always.
            book = one_chain(((("sport", ((5, 9),)),), decision), ((("talk", ((1, 1),)),), ("count", 3)), default=decision)
            self.check(book, PACKETS)

    def test_each_field(self):
        source = random.Random(341)
        for field, top in zip(FIELDS, TOPS):
            for low, high in [(0, 0), (1, top), (top, top), (top // 2, top // 2 + 1), (0, top)]:
                book = one_chain((((field, ((min(low, top), min(high, top)),)),), ACCEPT))
                self.check(book, PACKETS + self.near(source, book, 60))
                self.assertIs(means(compiled(book), book), True)

    def test_fields_that_kinds_do_not_have(self):
        # Where the kind has no such field, it is 0, whatever its bytes are.
        for field in KINDS:
            for zero, other in ((ACCEPT, DROP), (DROP, ("refuse", 1))):
                book = one_chain((((field, ((0, 0),)),), zero), default=other)
                self.check(book, PACKETS)
                for kind, inner in ((6, (3, 3, 5)), (17, (3, 3)), (1, (3, 3)), (0, ()), (5, ()), (7, ()), (16, ()), (18, ()), (255, ())):
                    packet = (1, 2, kind, 64, (9, 9), inner, (9, 9, 9, 9, 9, 9, 9, 9))
                    for view in some_views(packet):
                        wanted = other if kind in KINDS[field] else zero
                        self.assertEqual(run_program(compiled(book), packet, view)[:2], ("answer", wanted))

    def test_no_payload_and_no_options(self):
        book = one_chain(((("dport", ((80, 80),)),), ACCEPT), ((("flags", ((1, 2),)),), ("refuse", 1)), ((("code", ((8, 9),)),), ("refuse", 2)))
        for packet in PACKETS:
            for view in some_views(packet):
                self.assertEqual(run_program(compiled(book), packet, view)[0], "answer")
        self.assertIs(means(compiled(book), book), True)

    def test_jumps_marks_and_counts(self):
        source = random.Random(342)
        self.check(B, PACKETS + self.near(source, B, 200))
        self.assertIs(means(compiled(B), B), True)
        marked = (
            ("main", (((("side", ((1, 1),)),), ("mark", 7)), ((), ("jump", "a")), ((("mark", ((7, 9),)),), ACCEPT), ((), ("count", 5)),
                      ((("source", ((256, 511),)),), ("jump", "b"))), DROP),
            ("a", (((("flags", ((0, 1),)),), ("back",)), ((), ("mark", 8))), ("back",)),
            ("b", (((("length", ((12, 60),)),), ("refuse", 4)),), ("back",)),
        )
        self.check(marked, PACKETS + self.near(source, marked, 300))
        self.assertIs(means(compiled(marked), marked), True)

    def test_by_chance(self):
        source = random.Random(343)
        counts = {"short": 0, "long": 0, "too long": 0}
        while min(counts.values()) < 15:
            book = random_book(source, 8, random_fields(source, source.randint(1, 6), 3))
            limit = limit_of(book)
            if limit > 200:
                counts["too long"] += 1
                with self.assertRaises(TooLong):
                    compiled(book)
                continue
            word = "long" if limit > 100 else "short"
            counts[word] += 1
            if word == "long" or counts[word] < 60:
                self.check(book, self.near(source, book, 20))

    def test_means_for_all_packets(self):
        source = random.Random(344)
        done = 0
        while done < 60:
            book = random_book(source, 8, random_fields(source, source.randint(2, 5), 2))
            if 30 < limit_of(book) <= 200:
                done += 1
                self.assertIs(means(compiled(book), book), True)

    def test_too_long_exactly(self):
        # One node with b branches: 20 + 4 * b + 8.
        for branches in (2, 3, 42, 43, 44, 60):
            book = comb("source", list(range(10, 10 * branches, 10)))
            nodes, _ = plan_of(book)
            self.assertEqual([len(part) for _, part in nodes], [branches])
            self.assertEqual(limit_of(book), 28 + 4 * branches)
            if branches <= 43:
                self.check(book, self.near(random.Random(345), book, 30))
            else:
                with self.assertRaises(TooLong):
                    compiled(book)

    def test_just_at_the_limit(self):
        # Seven nodes of two branches make 204, six make 176; a node with three branches more has 20 + 12.
        fields = ["interface", "kind", "source", "sport", "destination", "dport", "flags"]
        for many, more, wanted in [(6, 2, 176), (6, 8, 200), (6, 9, 204), (7, 2, 204)]:
            rules = [(((field, ((1, 1),)) if field == "interface" else (field, ((0, 4),)),), ACCEPT) for field in fields[:many - 1]]
            top = TOPS[FIELDS.index("length")]
            ends = list(range(100, 100 * more, 100))
            rules.append(comb("length", ends)[0][1][0])
            book = one_chain(*rules)
            nodes, _ = plan_of(book)
            self.assertEqual((len(nodes), limit_of(book), top), (many, wanted, 1500))
            if wanted <= 200:
                self.check(book, self.near(random.Random(346), book, 100))
            else:
                with self.assertRaises(TooLong):
                    compiled(book)


if __name__ == "__main__":
    unittest.main()
