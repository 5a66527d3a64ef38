"""Points 13.2 to 13.4: what programs mean."""

import random
import unittest

from gatewarden.byteboxes import is_byte_box, lies_in
from gatewarden.byteruns import BEGIN
from gatewarden.compiling import compiled
from gatewarden.errors import TooLong
from gatewarden.machine import is_program, run_program
from gatewarden.meaning import Meaning, check_meaning, meaning_paper, means
from gatewarden.packets import is_packet
from gatewarden.trimming import trimmed
from tests.bookhelp import B, DECISIONS, ends_in, plain_walk, random_book, random_fields
from tests.helpers import Trap, nested, odd_values, resized, spoilt
from tests.meaninghelp import (
    ALL_PLACES, GREATEST, UPPER, WHOLE, cut_more, cut_out, nodes_of, packet_near, plain_is_plain, plain_is_same,
    plain_is_tree, plain_void, put_at, ranges_of, restricted, some_views, with_range,
)
from tests.test_byteboxes import FIRST, KIND, LENGTH, TTL, box
from tests.test_machine import plain_run

ACCEPT, DROP = ("accept",), ("drop",)
ALL, NOTHING = (("main", (), ACCEPT),), (("main", (), DROP),)
SAME, VOID = ("same",), ("void",)
TALK, SIDE, INTERFACE = ("special", "talk"), ("special", "side"), ("special", "interface")
TO_ALL = (("answer", ACCEPT),)
WHOLE_TREE = meaning_paper(TO_ALL, ALL)[1]


def only(*conditions, action=ACCEPT, default=DROP):
    return (("main", ((conditions, action),), default),)


def wrong_case(program, book, packet, view):
    """True if a program harms or answers otherwise than the book decides."""
    result = plain_run(program, packet, view)
    return result[0] == "harm" or result[1] != plain_walk(book, view)[0]


def depth_of(value):
    depth, level = 0, [value]
    while level:
        depth += 1
        level = [part for item in level if isinstance(item, tuple) for part in item]
    return depth


def leaf_is_taken(program, book, tree, part, leaf):
    """Whether a leaf is taken in a byte box, where a right tree tells all else."""
    return check_meaning(program, book, ("means", cut_out(tree, part, leaf)))


class Papers(unittest.TestCase):
    """The papers that meaning_paper tells."""

    def check(self, program, book, source, tries=120, most=4000):
        paper = meaning_paper(program, book)
        self.assertIs(check_meaning(program, book, paper), True)
        self.assertIs(means(program, book), paper[0] == "means")
        self.assertLessEqual(depth_of(paper), 200)
        if paper[0] == "fails":
            _, packet, view = paper
            self.assertEqual(len(paper), 3)
            self.assertIs(is_packet(packet), True)
            self.assertNotEqual(packet[0], packet[1])
            self.assertGreater(packet[3], 1)
            self.assertIn(view, some_views(packet))
            self.assertIs(wrong_case(program, book, packet, view), True)
            return "fails"
        self.assertEqual((paper[0], len(paper)), ("means", 2))
        # The other checker is slow.
        if len(list(nodes_of(paper[1]))) <= most:
            self.assertIs(plain_is_tree(program, book, paper[1]), True)
        ends = ends_in(book)
        for _ in range(tries):
            packet = packet_near(source, ends)
            for view in source.sample(some_views(packet), 2):
                self.assertIs(wrong_case(program, book, packet, view), False, (program, book, packet, view))
        return "means"

    def test_document_book(self):
        source = random.Random(301)
        self.assertEqual(self.check(compiled(B), B, source, 600), "means")
        self.assertEqual(self.check(trimmed(compiled(B)), B, source, 600), "means")
        self.assertEqual(self.check(TO_ALL, B, source), "fails")
        self.assertEqual(self.check(TO_ALL, ALL, source), "means")
        self.assertEqual(self.check((("answer", ("refuse", 3)),), (("main", (), ("refuse", 4)),), source), "fails")

    def test_compiled_programs(self):
        source = random.Random(302)
        done = 0
        while done < 60:
            book = random_book(source, 8, random_fields(source, source.randint(1, 5), 3))
            try:
                program = compiled(book)
            except TooLong:
                continue
            if len(program) > 60 or (len(program) == 1 and source.random() < 0.8):
                continue
            done += 1
            self.assertEqual(self.check(program, book, source, 60), "means")
            self.assertEqual(self.check(trimmed(program), book, source, 20), "means")

    def test_programs_changed_in_one_instruction(self):
        source = random.Random(303)
        words = {"means": 0, "fails": 0}
        while min(words.values()) < 25:
            book = random_book(source, 8, random_fields(source, source.randint(2, 4), 2))
            try:
                program = compiled(book)
            except TooLong:
                continue
            if not 4 < len(program) <= 60:
                continue
            k = source.randrange(len(program))
            changed = program[:k] + (changed_instruction(source, program, k),) + program[k + 1:]
            if is_program(changed):
                words[self.check(changed, book, source, 40)] += 1

    def test_programs_by_chance(self):
        source = random.Random(304)
        words = {"means": 0, "fails": 0}
        for _ in range(500):
            book = source.choice((ALL, ALL, random_book(source, 3, random_fields(source, 1, 1))))
            program = small_program(source)
            words[self.check(program, book, source, 30)] += 1
        self.assertGreater(min(words.values()), 25, words)

    def test_programs_with_masks(self):
        source = random.Random(305)
        for number, low, high in [(65280, 256, 511), (65535, 300, 300), (61440, 4096, 8191), (65520, 32, 47)]:
            book = only(("source", ((low, high),)))
            program = (("word", 1, "outer", 8), ("mask", 1, number), ("less", 1, low & number, 5, 3),
                       ("less", 1, (high & number) + 1, 4, 5), ("answer", ACCEPT), ("answer", DROP))
            self.assertEqual(self.check(program, book, source, 300), "means")
            wrong = program[:1] + (("mask", 1, number & 65279),) + program[2:]
            self.assertEqual(self.check(wrong, book, source, 100), "means" if number & 256 == 0 else "fails")
        # Odd numbers of the last byte of the source, and of the length.
        odd = (("byte", 0, "outer", 9), ("mask", 0, 1), ("less", 0, 1, 3, 4), ("answer", DROP), ("answer", ACCEPT))
        evens = tuple((k, k) for k in range(1, 16, 2))
        self.assertEqual(self.check(odd, only(("source", evens)), source, 100), "fails")
        self.assertEqual(self.check(odd[:3] + (("answer", ACCEPT),) * 2, ALL, source), "means")
        length = (("special", 0, "length"), ("mask", 0, 5), ("less", 0, 1, 3, 4), ("answer", ACCEPT), ("answer", ACCEPT))
        self.assertEqual(self.check(length, ALL, source), "means")
        # Masked twice, the ranges tell less than the bytes.
        twice = (("byte", 0, "outer", 9), ("mask", 0, 240), ("mask", 0, 15), ("less", 0, 1, 5, 4), ("answer", DROP), ("answer", ACCEPT))
        self.assertEqual(self.check(twice, ALL, source), "means")
        self.assertEqual(self.check(twice, NOTHING, source), "fails")

    def test_packets_between_few_addresses(self):
        source = random.Random(309)
        for one, other in [((4, 5), (4, 4)), ((4, 4), (4, 5)), ((255, 256), (255, 255)), ((255, 255), (255, 256)), ((256, 256), (255, 256)),
                           ((65534, 65535), (65534, 65534)), ((0, 0), (0, 1))]:
            book = only(("source", (one,)), ("destination", (other,)))
            self.assertEqual(self.check((("answer", DROP),), book, source), "fails")
            self.assertEqual(self.check((("answer", DROP),), only(("source", ((7, 7),)), ("destination", ((7, 7),))), source), "means")

    def test_harm_alone_fails(self):
        source = random.Random(306)
        for program in [
            (("put", 0, 1),), (("mask", 0, 1), ("answer", ACCEPT)), (("byte", 0, "outer", 12), ("answer", ACCEPT)),
            (("byte", 0, "outer", 5), ("answer", ACCEPT)), (("byte", 0, "inner", 0), ("answer", ACCEPT)),
            (("word", 0, "outer", 11), ("answer", ACCEPT)), (("byte", 0, "outer", 1499), ("answer", ACCEPT)),
            (("byte", 0, "outer", 1500), ("answer", ACCEPT)), (("less", 3, 0, 1, 1), ("answer", ACCEPT)),
            (("special", 0, "length"), ("less", 0, 1499, 3, 2), ("byte", 0, "outer", 1499), ("answer", ACCEPT)),
            (("byte", 0, "outer", 1), ("less", 0, 6, 5, 2), ("less", 0, 7, 3, 5), ("byte", 0, "inner", 4), ("byte", 0, "inner", 5),
             ("answer", ACCEPT)),
        ]:
            self.assertEqual(self.check(program, ALL, source), "fails")

    def test_harm_that_no_packet_meets(self):
        source = random.Random(307)
        for program in [
            (("special", 0, "length"), ("less", 0, 12, 2, 3), ("mask", 2, 5), ("answer", ACCEPT)),
            (("special", 0, "length"), ("less", 0, 14, 3, 2), ("byte", 0, "outer", 13), ("answer", ACCEPT)),
            (("special", 0, "length"), ("less", 0, 1500, 3, 2), ("byte", 0, "outer", 1499), ("answer", ACCEPT)),
            (("special", 0, "talk"), ("less", 0, 7, 3, 2), ("put", 0, 1), ("answer", ACCEPT)),
            (("byte", 0, "outer", 1), ("less", 0, 17, 5, 2), ("less", 0, 18, 3, 5), ("word", 0, "inner", 0), ("word", 1, "inner", 2),
             ("answer", ACCEPT)),
        ]:
            self.assertIs(is_program(program), True)
            self.assertEqual(self.check(program, ALL, source), "means")
        # Where options may be, the thirteenth byte need not be closed or there.
        program = (("byte", 0, "outer", 0), ("less", 0, 71, 5, 2), ("byte", 0, "outer", 12), ("word", 1, "outer", 12), ("answer", ACCEPT),
                   ("answer", ACCEPT))
        self.assertEqual(self.check(program, ALL, source), "means")

    def test_flags_and_talks_that_no_packet_has(self):
        source = random.Random(308)
        # Flags above 7, a side without a talk, a talk of a kind without talks: what a program does there does not count.
        flags = (("byte", 0, "outer", 1), ("less", 0, 6, 6, 2), ("less", 0, 7, 3, 6), ("byte", 0, "inner", 4), ("less", 0, 8, 6, 5),
                 ("answer", DROP), ("answer", ACCEPT))
        self.assertEqual(self.check(flags, ALL, source), "means")
        side = (("special", 0, "talk"), ("less", 0, 2, 2, 4), ("special", 1, "side"), ("less", 1, 1, 4, 5), ("answer", ACCEPT),
                ("answer", DROP))
        self.assertEqual(self.check(side, ALL, source), "means")
        wider = side[:1] + (("less", 0, 3, 2, 4),) + side[2:]
        self.assertEqual(self.check(wider, ALL, source), "fails")
        kind = (("byte", 0, "outer", 1), ("less", 0, 18, 5, 2), ("special", 1, "talk"), ("less", 1, 1, 5, 4), ("answer", DROP),
                ("answer", ACCEPT))
        self.assertEqual(self.check(kind, ALL, source), "means")
        wider = kind[:1] + (("less", 0, 17, 5, 2),) + kind[2:]
        self.assertEqual(self.check(wider, ALL, source), "fails")


def changed_instruction(source, program, k):
    word = program[k][0]
    if word == "less":
        _, at, number, yes, no = program[k]
        if source.random() < 0.4:
            return ("less", at, max(0, min(65535, number + source.choice((-1, 1, 256)))), yes, no)
        return ("less", at, number, *source.choice(((no, yes), (yes, yes), (no, no), (yes, min(no + 1, len(program) - 1)))))
    return source.choice([
        ("answer", source.choice(DECISIONS)), ("put", 0, source.choice((0, 1, 300))), ("special", 0, source.choice(("length", "talk"))),
        ("byte", 0, source.choice(("outer", "inner")), source.choice((0, 1, 4, 9, 2))), ("mask", 0, source.choice((255, 240, 85))),
        ("word", 0, source.choice(("outer", "inner")), source.choice((0, 2, 8, 10, 9))),
    ])


def small_program(source):
    """A program of at most twelve instructions that seldom does harm."""
    many = source.randint(2, 12)
    found, loaded, odd = [], [], False
    for k in range(many - 1):
        at = source.choice(loaded or [0])
        choices = [
            ("byte", source.randrange(2), "outer", source.choice((0, 1, 4, 8, 9, 10, 11))),
            ("special", source.randrange(2), source.choice(("interface", "length", "talk", "side"))),
            ("word", source.randrange(2), "outer", source.choice((0, 8, 10, 9))), ("put", source.randrange(2), source.randint(0, 600)),
        ]
        if source.random() < 0.1:
            choices.append(("byte", 0, "inner", source.randrange(6)))
        if loaded:
            mask = 256 * source.choice(UPPER) + source.choice(UPPER)
            if not odd and source.random() < 0.1:
                mask, odd = source.choice((1, 85, 7, 256)), True
            choices += [("mask", at, mask)]
            numbers = sorted((source.randint(k + 1, many - 1), source.randint(k + 1, many - 1)))
            choices += [("less", at, source.choice((1, 2, 5, 300, 40000, source.randint(0, 255))), *numbers[::source.choice((1, -1))])] * 3
        found.append(source.choice(choices))
        if found[-1][0] not in ("less", "mask"):
            loaded.append(found[-1][1])
    return tuple(found) + (("answer", source.choice((ACCEPT, ACCEPT, DROP))),)


class Trees(unittest.TestCase):
    """Right trees of others, and trees in which something is changed."""

    def right_trees(self, seed, many):
        source = random.Random(seed)
        found = [(source, compiled(B), B, meaning_paper(compiled(B), B)[1]), (source, TO_ALL, ALL, WHOLE_TREE)]
        while len(found) < many:
            book = random_book(source, 4, random_fields(source, 2, 2))
            try:
                program = compiled(book)
            except TooLong:
                continue
            tree = meaning_paper(program, book)[1]
            if len(program) > 4 and len(list(nodes_of(tree))) < 500:
                found.append((source, program, book, tree))
        return found

    def test_cut_once_more(self):
        for source, program, book, tree in self.right_trees(311, 12):
            nodes = list(nodes_of(tree))
            done = 0
            while done < 25:
                steps, part, here = source.choice(nodes)
                place = source.choice(ALL_PLACES)
                low, high = ranges_of(part)[place]
                if low == high:
                    continue
                at = source.choice((low + 1, high, source.randint(low + 1, high)))
                other = put_at(tree, steps, cut_more(here, place, at, part))
                wanted = is_byte_box(with_range(part, place, low, at - 1)) and is_byte_box(with_range(part, place, at, high))
                self.assertIs(check_meaning(program, book, ("means", other)), wanted, (place, at, part))
                if wanted:
                    done += 1
                    self.assertIs(plain_is_tree(program, book, other), True)

    def test_one_part_changed(self):
        answers = {True: 0, False: 0}
        for source, program, book, tree in self.right_trees(312, 12):
            nodes = list(nodes_of(tree))
            for _ in range(60):
                steps, part, here = source.choice(nodes)
                other = put_at(tree, steps, changed_node(source, here, nodes))
                if other != tree:
                    wanted = plain_is_tree(program, book, other)
                    answers[wanted] += 1
                    self.assertIs(check_meaning(program, book, ("means", other)), wanted, (part, here))
        self.assertGreater(min(answers.values()), 20, answers)

    def test_each_leaf_and_cut_of_one_tree(self):
        program, book = compiled(B), B
        tree = meaning_paper(program, book)[1]
        nodes = list(nodes_of(tree))
        for steps, part, here in random.Random(314).sample(nodes, 50):
            if here[0] == "cut":
                _, place, at, below, above = here
                others = [SAME, VOID, below, above, ("cut", place, at, above, below), here[:4], here + (SAME,), ("Cut",) + here[1:],
                          ("cut", place, ranges_of(part)[place][0], below, above), ("cut", at, place, below, above), here[1:],
                          ("cut", place, ranges_of(part)[place][1] + 1, below, above), ("cut", place, at - 1, below, above)]
            else:
                others = [SAME if here == VOID else VOID, (), here + here, ("is", ACCEPT), ("void", ()), ("same", ACCEPT), ("empty",)]
            for other in others:
                changed = put_at(tree, steps, other)
                if changed != tree:
                    wanted = other in (SAME, VOID) or (other and other[0] == "cut" and len(other) == 5)
                    wanted = bool(wanted and plain_is_tree(program, book, changed))
                    self.assertIs(check_meaning(program, book, ("means", changed)), wanted, (part, here, other))

    def test_the_length_is_cut_first(self):
        # Where the inner head begins is not known yet, though its bytes are known to be there.
        for book in (only(("dport", ((80, 300),))), only(("flags", ((1, 3),))), only(("code", ((300, 768),)))):
            program = compiled(book)
            tree = meaning_paper(program, book)[1]
            for at in (30, 40, 1000):
                other = cut_more(tree, LENGTH, at)
                self.assertIs(plain_is_tree(program, book, other), True)
                self.assertIs(check_meaning(program, book, ("means", other)), True)
                self.assertIs(check_meaning(program, ALL, ("means", other)), False)

        loading = (("special", 0, "length"), ("less", 0, 40, 4, 2), ("byte", 1, "inner", 0), ("less", 1, 9, 4, 5), ("answer", ACCEPT), ("answer", ACCEPT))
        tree = meaning_paper(loading, ALL)[1]
        for at in (40, 41, 500):
            other = cut_more(tree, LENGTH, at)
            self.assertIs(plain_is_tree(loading, ALL, other), True)
            self.assertIs(check_meaning(loading, ALL, ("means", other)), True)

    def test_trees_of_other_programs(self):
        rows = self.right_trees(313, 8)
        for _, program, book, _ in rows:
            for _, _, _, tree in rows:
                self.assertIs(check_meaning(program, book, ("means", tree)), plain_is_tree(program, book, tree))

    def test_leaves_stand_in_plain_boxes_alone(self):
        self.assertIs(check_meaning(TO_ALL, ALL, ("means", SAME)), False)
        self.assertIs(check_meaning(TO_ALL, ALL, ("means", VOID)), False)
        for part in [box((FIRST, (70, 70))), box((KIND, (40, 40))), box((FIRST, (70, 71)), (KIND, (40, 40))),
                     box((FIRST, (70, 70)), (KIND, (6, 7))), box((FIRST, (74, 74)), (KIND, (0, 5))),
                     box((FIRST, (74, 74)), (KIND, (16, 18)))]:
            self.assertIs(leaf_is_taken(TO_ALL, ALL, WHOLE_TREE, part, SAME), False)
            self.assertIs(leaf_is_taken(TO_ALL, ALL, WHOLE_TREE, part, VOID), False)
        # No packet lies in these, but they are not plain.
        equal = [(("byte", 8), (1, 1)), (("byte", 9), (2, 2)), (("byte", 10), (1, 1)), (("byte", 11), (2, 2))]
        for part in [box(*equal), box((FIRST, (70, 70)), *equal), box((KIND, (6, 6)), *equal), box((FIRST, (70, 70)), (KIND, (6, 7)), *equal),
                     box((KIND, (6, 6)), (LENGTH, (12, 13))), box((FIRST, (73, 74)), (KIND, (6, 6)), (LENGTH, (12, 13)))]:
            self.assertIs(leaf_is_taken(TO_ALL, ALL, WHOLE_TREE, part, VOID), False)
        self.assertIs(leaf_is_taken(TO_ALL, ALL, WHOLE_TREE, box((FIRST, (70, 70)), (KIND, (6, 6)), *equal), VOID), True)
        for first in range(70, 75):
            for kind in [(0, 0), (2, 5), (7, 16), (18, 255), (6, 6), (17, 17), (1, 1), (100, 103)]:
                part = box((FIRST, (first, first)), (KIND, kind))
                self.assertIs(leaf_is_taken(TO_ALL, ALL, WHOLE_TREE, part, SAME), True)
                self.assertIs(leaf_is_taken(TO_ALL, ALL, WHOLE_TREE, part, VOID), False)

    def test_a_tree_of_one_leaf_for_each_form(self):
        kinds = SAME
        for kind in (18, 17, 7, 6, 2, 1):
            kinds = ("cut", KIND, kind, SAME, kinds)
        tree = kinds
        for first in (74, 73, 72, 71):
            tree = ("cut", FIRST, first, kinds, tree)
        self.assertIs(check_meaning(TO_ALL, ALL, ("means", tree)), True)
        self.assertIs(check_meaning(TO_ALL, ALL, ("means", tree[3])), False)


def changed_node(source, here, nodes):
    """Another node in the place of one, mostly of the same form."""
    if here[0] != "cut" or source.random() < 0.2:
        return source.choice((SAME, VOID, source.choice(nodes)[2]))
    _, place, at, below, above = here
    return source.choice([
        ("cut", place, at + source.choice((-1, 1, 2)), below, above), ("cut", place, at, above, below), below, above,
        ("cut", source.choice(ALL_PLACES), at, below, above), ("cut", place, at, below, below), ("cut", place, at, above, above),
    ])


class Voids(unittest.TestCase):
    """Point 13.2, asked by leaves in boxes that are cut out of a right tree."""

    def check(self, part, wanted):
        self.assertIs(is_byte_box(part), True, part)
        self.assertIs(plain_void(part), wanted, part)
        self.assertIs(leaf_is_taken(TO_ALL, ALL, WHOLE_TREE, part, VOID), wanted, part)

    def form(self, kind, first=70, *pairs):
        return box((FIRST, (first, first)), (KIND, (kind, kind)), *pairs)

    def test_lengths(self):
        for first in (70, 71, 74):
            for kind, head in ((6, 8), (17, 6), (1, 4), (0, 0), (200, 0)):
                least = 2 * (first - 64) + head
                for high in (12, least - 1, least, least + 1, 1500):
                    if high >= 12:
                        self.check(self.form(kind, first, (LENGTH, (12, high))), high < least)
                self.check(self.form(kind, first, (LENGTH, (1500, 1500))), False)

    def test_addresses(self):
        def addresses(*pairs):
            return self.form(200, 70, *[(("byte", 8 + k), pair) for k, pair in enumerate(pairs)])

        self.check(addresses((1, 1), (2, 2), (1, 1), (2, 2)), True)
        self.check(addresses((1, 1), (2, 2), (2, 2), (1, 1)), False)
        self.check(addresses((1, 1), (2, 2), (1, 1), (3, 3)), False)
        self.check(addresses((1, 1), (2, 2), (0, 0), (2, 2)), False)
        for k in range(4):
            pairs = [(1, 1), (2, 2), (1, 1), (2, 2)]
            pairs[k] = (pairs[k][0], pairs[k][0] + 1)
            self.check(addresses(*pairs), False)
            pairs[k] = (pairs[k][0] - 1, pairs[k][0])
            self.check(addresses(*pairs), False)

    def test_flags(self):
        for first in (70, 73):
            place = ("byte", 2 * (first - 64) + 4)
            for low, high in [(0, 7), (7, 7), (7, 255), (8, 8), (8, 255), (255, 255), (0, 255)]:
                self.check(self.form(6, first, (LENGTH, (30, 1500)), (place, (low, high))), low > 7)
            # For other kinds this byte is another one.
            self.check(self.form(200, first, (LENGTH, (30, 1500)), (place, (8, 255))), False)

    def test_talks_and_sides(self):
        for kind in (6, 17, 1, 0, 200):
            for low in range(7):
                for high in range(low, 7):
                    for side in ((0, 0), (1, 1), (0, 1)):
                        part = self.form(kind, 70, (TALK, (low, high)), (SIDE, side))
                        self.assertIs(leaf_is_taken(TO_ALL, ALL, WHOLE_TREE, part, VOID), plain_void(part), part)
        self.check(self.form(17, 70, (TALK, (1, 1)), (SIDE, (1, 1))), True)
        self.check(self.form(17, 70, (TALK, (2, 2)), (SIDE, (1, 1))), False)
        self.check(self.form(17, 70, (TALK, (4, 6))), True)
        self.check(self.form(6, 70, (TALK, (0, 0))), True)
        self.check(self.form(200, 70, (TALK, (0, 6)), (SIDE, (0, 1))), False)
        self.check(self.form(200, 70, (TALK, (1, 6))), True)
        self.check(self.form(200, 70, (SIDE, (1, 1))), True)

    def test_flags_against_talks(self):
        for flags in range(8):
            for code in range(1, 7):
                for side in (0, 1):
                    part = self.form(6, 70, (LENGTH, (20, 1500)), (("byte", 16), (flags, flags)), (TALK, (code, code)), (SIDE, (side, side)))
                    self.assertIs(leaf_is_taken(TO_ALL, ALL, WHOLE_TREE, part, VOID), plain_void(part), part)
        self.check(self.form(6, 70, (LENGTH, (20, 1500)), (("byte", 16), (0, 0)), (TALK, (1, 2))), True)
        self.check(self.form(6, 70, (LENGTH, (20, 1500)), (("byte", 16), (0, 1)), (TALK, (1, 2))), False)
        self.check(self.form(6, 70, (LENGTH, (20, 1500)), (("byte", 16), (3, 3)), (TALK, (1, 5))), True)
        self.check(self.form(6, 70, (LENGTH, (20, 1500)), (("byte", 16), (6, 6)), (TALK, (2, 2)), (SIDE, (1, 1))), True)
        self.check(self.form(6, 70, (LENGTH, (20, 1500)), (("byte", 16), (6, 6)), (TALK, (3, 3)), (SIDE, (1, 1))), False)

    def test_other_bytes_make_no_box_void(self):
        pairs = [(("byte", k), (9, 9)) for k in (12, 13, 14, 15, 20, 24)]
        for kind in (6, 17, 1, 200):
            left = [pair for pair in pairs if is_byte_box(self.form(kind, 70, (LENGTH, (30, 30)), pair)) and (kind, pair[0][1]) != (6, 16)]
            self.check(self.form(kind, 70, (LENGTH, (30, 30)), (TTL, (255, 255)), (INTERFACE, (1, 1)), *left), False)

    def test_by_chance(self):
        source = random.Random(321)
        answers = {True: 0, False: 0}
        for _ in range(1500):
            part = random_part(source)
            if is_byte_box(part) and plain_is_plain(part):
                wanted = plain_void(part)
                answers[wanted] += 1
                self.assertIs(leaf_is_taken(TO_ALL, ALL, WHOLE_TREE, part, VOID), wanted, part)
                self.assertIs(leaf_is_taken(TO_ALL, ALL, WHOLE_TREE, part, SAME), True, part)
        self.assertGreater(min(answers.values()), 100, answers)

    def test_packets_against_void_boxes(self):
        source = random.Random(322)
        met = 0
        ends = [[] for _ in range(11)]
        for _ in range(1000):
            part = random_part(source)
            if not is_byte_box(part) or not plain_is_plain(part):
                continue
            for _ in range(30):
                packet = packet_near(source, ends)
                view = source.choice(some_views(packet))
                if lies_in(part, packet, view):
                    met += 1
                    self.assertIs(leaf_is_taken(TO_ALL, ALL, WHOLE_TREE, part, VOID), False)
        self.assertGreater(met, 50)


def random_part(source):
    """A byte box by chance, mostly plain, in which packets may lie or not."""
    first = source.randint(70, 74)
    kind = source.choice((6, 6, 17, 1, 0, 200))
    low = source.choice((12, 12, 18, 20, 26, 30, 1500))
    high = source.choice((low, low + 1, low + 8, 1500))
    pairs = [(FIRST, (first, first)), (KIND, (kind, kind)), (LENGTH, (low, min(high, 1500)))]
    for place in source.sample([TALK, SIDE, INTERFACE, TTL, ("byte", 8), ("byte", 11)], source.randint(0, 3)):
        least, greatest = GREATEST[place]
        one, other = sorted(source.choice((least, greatest, source.randint(least, greatest))) for _ in range(2))
        pairs.append((place, (one, other)))
    begin = 2 * (first - 64)
    if source.random() < 0.5:
        number = source.choice((begin, begin + 1, begin + 4, 12, 13))
        one, other = sorted(source.choice((0, 5, 7, 8, 255)) for _ in range(2))
        pairs.append((("byte", number), (one, other)))
    return box(*dict(pairs).items())


class Sames(unittest.TestCase):
    """The leaf `same`, in boxes of all forms."""

    def test_harm(self):
        part = box((FIRST, (70, 70)), (KIND, (40, 40)), (LENGTH, (20, 1500)))
        for first in [("byte", 0, "outer", 2), ("mask", 0, 3), ("less", 1, 3, 2, 2)]:
            program = (("put", 3, 1), first, ("answer", ACCEPT))
            self.check_part(program, ALL, part, False)
        self.check_part((("byte", 0, "outer", 12), ("answer", ACCEPT)), ALL, part, True)
        self.check_part((("byte", 0, "outer", 12), ("put", 1, 1)), ALL, part, False)
        self.check_part((("byte", 0, "outer", 19), ("answer", ACCEPT)), ALL, part, True)
        self.check_part((("byte", 0, "outer", 20), ("answer", ACCEPT)), ALL, part, False)
        self.check_part((("word", 0, "outer", 19), ("answer", ACCEPT)), ALL, part, False)
        self.check_part((("byte", 0, "outer", 1500), ("answer", ACCEPT)), ALL, part, False)

    def check_part(self, program, book, part, wanted):
        self.assertIs(is_program(program), True)
        self.assertIs(plain_is_same(program, book, part), wanted)
        self.assertIs(same_in(program, book, part), wanted, (program, part))

    def test_closed_bytes(self):
        for kind, numbers in ((6, (17, 18, 19)), (17, (16, 17)), (1, (14, 15))):
            for number in numbers:
                program = (("byte", 0, "outer", number), ("answer", ACCEPT))
                for length in ((12, 1500), (30, 1500), (12, 13)):
                    part = box((FIRST, (70, 70)), (KIND, (kind, kind)), (LENGTH, length))
                    self.check_part(program, ALL, part, False)
                part = box((FIRST, (71, 71)), (KIND, (kind, kind)), (LENGTH, (30, 1500)))
                self.check_part(program, ALL, part, number - 14 not in {6: (5, 6, 7), 17: (4, 5), 1: (2, 3)}[kind])

    def test_unsettled(self):
        base = [(FIRST, (70, 70)), (KIND, (6, 6)), (LENGTH, (20, 1500))]
        less = (("word", 0, "inner", 0), ("less", 0, 300, 3, 2), ("answer", ACCEPT), ("answer", ACCEPT))
        for high, low, wanted in [((0, 0), (0, 255), True), ((1, 1), (0, 43), True), ((1, 1), (44, 255), True), ((1, 1), (43, 44), False),
                                  ((0, 1), (0, 43), True), ((0, 1), (0, 44), False), ((1, 2), (44, 44), True), ((0, 2), (0, 0), False),
                                  ((2, 255), (0, 255), True), ((0, 255), (0, 255), False)]:
            part = box(*base, (("byte", 12), high), (("byte", 13), low))
            self.check_part(less, ALL, part, wanted)
            self.check_part(less[:1] + (("less", 0, 300, 3, 3),) + less[2:], ALL, part, True)

    def test_masks_of_pairs(self):
        base = [(FIRST, (70, 70)), (KIND, (6, 6)), (LENGTH, (20, 1500))]
        for mask, number, high, low, wanted in [
            (65535, 300, (1, 1), (44, 45), True), (65280, 256, (1, 1), (0, 255), True), (65280, 257, (1, 1), (0, 255), True),
            (255, 256, (0, 255), (0, 255), True), (255, 255, (0, 255), (0, 255), False), (255, 255, (0, 255), (0, 254), True),
            (85, 86, (0, 255), (0, 255), True), (85, 85, (0, 255), (0, 255), False), (170, 1, (0, 255), (0, 1), True),
            (170, 1, (3, 3), (0, 2), False), (170, 1, (3, 3), (2, 3), True), (512, 512, (0, 3), (9, 9), False),
            (512, 512, (2, 3), (9, 9), True), (256, 256, (2, 3), (9, 9), False), (0, 1, (0, 255), (0, 255), True), (3, 3, (0, 0), (1, 2), True),
            # The greatest masked number of 1 and 2 is 2, though 3 would be masked to 3.
            (6, 3, (0, 0), (1, 5), False), (4, 4, (0, 0), (3, 4), False), (4, 4, (0, 0), (1, 3), True),
        ]:
            program = (("word", 0, "inner", 0), ("mask", 0, mask), ("less", 0, number, 4, 3), ("answer", ACCEPT), ("answer", ACCEPT))
            self.check_part(program, ALL, box(*base, (("byte", 12), high), (("byte", 13), low)), wanted)

    def test_masks_of_one_range(self):
        base = [(FIRST, (70, 70)), (KIND, (6, 6))]
        for mask, number, length, wanted in [
            (65535, 300, (20, 299), True), (65535, 300, (20, 300), False), (256, 1, (20, 255), True), (256, 1, (20, 256), False),
            (256, 256, (300, 511), True), (256, 256, (300, 512), False), (255, 200, (256, 455), True), (255, 200, (256, 456), False),
            (1, 1, (20, 20), True), (1, 1, (20, 21), False), (1024, 1024, (1024, 1500), True), (1024, 1024, (1023, 1500), False),
            (1281, 1, (512, 512), True), (7, 7, (16, 22), True), (7, 7, (16, 23), False),
        ]:
            program = (("special", 0, "length"), ("mask", 0, mask), ("less", 0, number, 4, 3), ("answer", ACCEPT), ("answer", ACCEPT))
            self.check_part(program, ALL, box(*base, (LENGTH, length)), wanted)

    def test_masked_twice(self):
        base = [(FIRST, (70, 70)), (KIND, (6, 6)), (LENGTH, (20, 1500))]
        program = (("byte", 0, "inner", 0), ("mask", 0, 240), ("mask", 0, 15), ("less", 0, 1, 5, 4), ("answer", ACCEPT), ("answer", ACCEPT))
        for low, high, wanted in [(0, 255, False), (0, 15, True), (16, 31, True), (0, 16, False), (200, 207, True), (207, 208, False)]:
            self.check_part(program, ALL, box(*base, (("byte", 12), (low, high))), wanted)

    def test_numbers_that_are_put(self):
        part = box((FIRST, (70, 70)), (KIND, (6, 6)))
        for number, mask, bound, wanted in [(300, 65535, 300, DROP), (300, 65535, 301, ACCEPT), (300, 255, 45, ACCEPT), (300, 255, 44, DROP),
                                            (300, 256, 256, DROP), (300, 256, 257, ACCEPT), (65535, 65535, 65535, DROP), (256, 65535, 256, DROP),
                                            (256, 65535, 257, ACCEPT), (512, 65535, 512, DROP), (511, 65535, 512, ACCEPT), (511, 65535, 511, DROP)]:
            program = (("put", 1, number), ("mask", 1, mask), ("less", 1, bound, 4, 3), ("answer", DROP), ("answer", ACCEPT))
            for book in (ALL, NOTHING):
                self.check_part(program, book, part, book == (("main", (), wanted),))

    def test_walks(self):
        base = [(FIRST, (70, 70)), (KIND, (6, 6)), (LENGTH, (20, 1500))]
        for field, places in [("source", (8, 9)), ("destination", (10, 11)), ("sport", (12, 13)), ("dport", (14, 15))]:
            book = only((field, ((300, 700),)))
            for high, low, wanted in [((1, 1), (44, 255), ACCEPT), ((1, 1), (43, 255), None), ((1, 1), (0, 43), DROP), ((1, 2), (44, 188), ACCEPT),
                                      ((1, 2), (44, 189), None), ((2, 2), (189, 255), DROP), ((3, 255), (0, 255), DROP), ((0, 255), (0, 255), None)]:
                part = box(*base, (("byte", places[0]), high), (("byte", places[1]), low))
                for decision in (ACCEPT, DROP):
                    self.check_part((("answer", decision),), book, part, decision == wanted)
        flags = only(("flags", ((3, 7),)))
        for low, high, wanted in [(3, 7, ACCEPT), (3, 255, ACCEPT), (8, 255, ACCEPT), (2, 255, None), (0, 2, DROP), (0, 255, None)]:
            part = box(*base, (("byte", 16), (low, high)))
            self.check_part(TO_ALL, flags, part, wanted == ACCEPT)
        code = only(("code", ((300, 700),)))
        for high, low, wanted in [((1, 1), (44, 255), True), ((1, 1), (43, 255), False)]:
            part = box((FIRST, (70, 70)), (KIND, (1, 1)), (LENGTH, (20, 1500)), (("byte", 12), high), (("byte", 13), low))
            self.check_part(TO_ALL, code, part, wanted)
        # What a kind does not have is 0, whatever its bytes are.
        for field in ("sport", "dport", "flags", "code"):
            for kind in ((40, 40), (18, 255), (2, 5), (6, 6), (17, 17), (1, 1)):
                part = box((FIRST, (70, 70)), (KIND, kind), (LENGTH, (40, 1500)))
                has = {"sport": (6, 17), "dport": (6, 17), "flags": (6,), "code": (1,)}[field]
                self.check_part(TO_ALL, only((field, ((0, 0),))), part, kind[0] not in has)
        for name, place in [("talk", TALK), ("side", SIDE), ("interface", INTERFACE), ("length", LENGTH), ("kind", KIND)]:
            part = box((FIRST, (70, 70)), (KIND, (20, 30)), (LENGTH, (20, 1500)))
            low, high = ranges_of(part)[place]
            self.check_part(TO_ALL, only((name, ((low, high),))), part, True)
            self.check_part(TO_ALL, only((name, ((low + 1, high),))), part, False)
            self.check_part(TO_ALL, only((name, ((low, high - 1),))), part, False)

    def test_by_chance(self):
        source = random.Random(331)
        answers = {True: 0, False: 0}
        for _ in range(1200):
            program = small_program(source)
            book = source.choice((ALL, random_book(source, 3, random_fields(source, 1, 1))))
            part = random_part(source)
            if is_byte_box(part):
                wanted = plain_is_same(program, book, part)
                answers[wanted] += 1
                self.assertIs(same_in(program, book, part), wanted, (program, book, part))
        self.assertGreater(min(answers.values()), 100, answers)


def meaning_tree(program, book):
    return meaning_paper(program, book)[1]


def same_in(program, book, part):
    """Whether a leaf `same` is right in a part: no whole tree is right for a program that harms elsewhere."""
    meaning = Meaning(program, book)
    return meaning.is_same(dict(part), meaning.runs.gone_on(dict(part), BEGIN))


class Cuts(unittest.TestCase):
    """Cuts that lead to byte boxes, and others."""

    def taken(self, part, place, at, below=SAME, above=SAME):
        return leaf_is_taken(TO_ALL, ALL, WHOLE_TREE, part, ("cut", place, at, below, above))

    def test_places(self):
        part = box((FIRST, (70, 70)), (KIND, (200, 200)), (LENGTH, (20, 30)))
        for place in [("byte", k) for k in (4, 8, 9, 10, 11, 12, 13, 19)] + [LENGTH, TALK, SIDE, INTERFACE]:
            low, high = ranges_of(part)[place]
            for at, wanted in [(low, False), (low + 1, True), (high, True), (high + 1, False), (-1, False), (0, False), (True, False),
                               (float(low + 1), False), (str(low + 1), False), (None, False), ((low + 1,), False)]:
                self.assertIs(self.taken(part, place, at), wanted, (place, at))
        for place in [("byte", 0), ("byte", 1), ("byte", 2), ("byte", 3), ("byte", 5), ("byte", 6), ("byte", 7), ("byte", 20), ("byte", 25),
                      ("byte", 1499), ("byte", 1500), ("byte", -1), ("special", "kind"), ("special", "source"), ("inner", 0), "talk", 8, None,
                      ("byte",), ("byte", 8, 8), ["byte", 8], ("byte", True), ("byte", 8.0), ("byte", "8"), ("special", 8), ("special", None), (),
                      (Trap(), 8), ("byte", Trap()), Trap(), ("special", Trap()), ("byte", ("byte", 8))]:
            for at in (1, 2, 70, 71, 200, 201):
                self.assertIs(self.taken(part, place, at), False, place)

    def test_bytes_that_plain_boxes_tell(self):
        for part, wanted in [
            (box((FIRST, (70, 70)), (KIND, (6, 6)), (LENGTH, (20, 30))), True), (box((FIRST, (70, 71)), (KIND, (6, 6)), (LENGTH, (20, 30))), False),
            (box((FIRST, (70, 70)), (KIND, (6, 7)), (LENGTH, (20, 30))), False), (box((FIRST, (70, 70)), (KIND, (18, 255)), (LENGTH, (20, 30))), True),
            (box((FIRST, (70, 70)), (KIND, (6, 6)), (LENGTH, (12, 30))), False), (box((FIRST, (70, 70)), (KIND, (6, 6)), (LENGTH, (13, 30))), True),
        ]:
            tree = part_tree(part)
            self.assertIs(self.taken(part, ("byte", 12), 5, tree, tree), wanted, part)
            self.assertIs(self.taken(part, ("byte", 8), 5, tree, tree), True, part)

    def test_closed_bytes(self):
        for first in (70, 72):
            begin = 2 * (first - 64)
            for kind, closed in ((6, (5, 6, 7)), (17, (4, 5)), (1, (2, 3)), (200, ())):
                part = box((FIRST, (first, first)), (KIND, (kind, kind)), (LENGTH, (40, 50)))
                for k in range(10):
                    self.assertIs(self.taken(part, ("byte", begin + k), 9), k not in closed, (kind, k))

    def test_boxes_of_packets_and_kinds(self):
        self.assertIs(check_meaning(TO_ALL, ALL, ("means", cut_more(WHOLE_TREE, ("byte", 9), 200))), True)
        self.assertIs(check_meaning(TO_ALL, ALL, ("means", cut_more(WHOLE_TREE, TTL, 3))), True)
        self.assertIs(check_meaning(TO_ALL, ALL, ("means", cut_more(WHOLE_TREE, TTL, 2))), False)
        self.assertIs(check_meaning(TO_ALL, ALL, ("means", cut_more(WHOLE_TREE, LENGTH, 13))), True)
        self.assertIs(check_meaning(TO_ALL, ALL, ("means", cut_more(WHOLE_TREE, LENGTH, 12))), False)
        self.assertIs(check_meaning(TO_ALL, ALL, ("means", ("cut", ("byte", 12), 9, WHOLE_TREE, WHOLE_TREE))), False)


def part_tree(part):
    """A right tree for a part, for a program and a book that accept all."""
    tree = WHOLE_TREE
    for place, (low, high) in part:
        tree = restricted(tree, place, low, high)
    return tree


class Failing(unittest.TestCase):
    """The papers with a failing packet."""

    def setUp(self):
        self.book = only(("source", ((9, 9),)), ("talk", ((1, 1),)))
        self.packet = (9, 4, 17, 64, (1, 2), (7, 80), (5,))
        self.view = (0, 17, 9, 7, 4, 80, 0, 0, 21, 1, 0)
        self.assertIs(check_meaning((("answer", DROP),), self.book, ("fails", self.packet, self.view)), True)

    def check(self, packet, view, wanted, program=(("answer", DROP),)):
        self.assertIs(check_meaning(program, self.book, ("fails", packet, view)), wanted, (packet, view))

    def test_answers(self):
        self.check(self.packet, self.view, False, (("answer", ACCEPT),))
        self.check(self.packet, self.view, True, (("answer", ("refuse", 0)),))
        self.check(self.packet, self.view, True, (("put", 0, 1),))
        self.check(self.packet, self.view, True, (("byte", 0, "inner", 4), ("answer", ACCEPT)))
        self.check(self.packet, self.view, False, (("byte", 0, "inner", 6), ("answer", ACCEPT)))
        self.check(self.packet, self.view, True, (("byte", 0, "inner", 7), ("answer", ACCEPT)))

    def test_packets(self):
        self.check((9, 9) + self.packet[2:], (0, 17, 9, 7, 9, 80, 0, 0, 21, 1, 0), False)
        for ttl in (0, 1, 2, 255, 256):
            self.check(self.packet[:3] + (ttl,) + self.packet[4:], self.view, 2 <= ttl <= 255)
        self.check(self.packet[:4] + ((1,),) + self.packet[5:], (0, 17, 9, 7, 4, 80, 0, 0, 20, 1, 0), False)
        self.check(self.packet[:4] + ((),) + self.packet[5:], (0, 17, 9, 7, 4, 80, 0, 0, 19, 1, 0), True)

    def test_views(self):
        views = some_views(self.packet)
        for view in views:
            self.check(self.packet, view, plain_walk(self.book, view)[0] != DROP)
        for k in range(11):
            for step in (-1, 1, 100):
                other = self.view[:k] + (self.view[k] + step,) + self.view[k + 1:]
                self.check(self.packet, other, other in views and plain_walk(self.book, other)[0] != DROP)
        # Sides and talk codes that this kind does not have.
        for code in range(7):
            for side in (0, 1):
                other = self.view[:9] + (code, side)
                self.check(self.packet, other, other == self.view)
                self.assertIs(
                    check_meaning((("answer", ("refuse", 1)),), self.book, ("fails", self.packet, other)), other in views)
        for other in list(spoilt(self.view)) + list(resized(self.view)) + odd_values():
            self.check(self.packet, other, False)
        for other in list(spoilt(self.packet)) + list(resized(self.packet)) + odd_values():
            self.check(other, self.view, False)

    def test_every_view_of_every_kind(self):
        for packet in [(9, 4, 6, 64, (), (7, 80, 1), ()), (4, 9, 6, 64, (), (7, 80, 2), ()), (9, 4, 1, 9, (), (3, 4), ()), (9, 4, 77, 9, (), (), ())]:
            for view in some_views(packet):
                self.assertIs(check_meaning((("put", 0, 1),), ALL, ("fails", packet, view)), True)
                self.assertIs(check_meaning((("put", 0, 1),), ALL, ("fails", packet, (2,) + view[1:])), False)
            rest = {view[9:] for view in some_views(packet)}
            for code in range(7):
                for side in (0, 1):
                    view = some_views(packet)[0][:9] + (code, side)
                    self.assertIs(check_meaning((("put", 0, 1),), ALL, ("fails", packet, view)), (code, side) in rest)


class AnyValue(unittest.TestCase):
    def test_values_of_other_forms(self):
        for program, book in [(TO_ALL, ALL), (TO_ALL, NOTHING), (compiled(B), B)]:
            tree = meaning_tree(TO_ALL, ALL)
            for value in odd_values() + [("means",), ("fails",), ("means", ()), ("means", tree, ()), ("fails", tree), (tree,), tree, "means",
                                         ("closed", tree), ["means", tree], ("Means", tree), (b"means", tree)]:
                self.assertIs(check_meaning(program, book, value), False)
            for value in odd_values():
                for paper in [("means", value), ("fails", value), ("fails", value, value), ("means", ("cut", FIRST, 72, value, value)),
                              ("means", ("cut", value, 72, tree, tree)), ("means", ("cut", FIRST, value, tree, tree)), (value, tree),
                              ("means", (value,)), ("means", (value, FIRST, 72, tree, tree)), ("means", value, value)]:
                    self.assertIs(check_meaning(program, book, paper), False)

    def test_one_part_of_another_kind(self):
        kinds = SAME
        for kind in (18, 17, 7, 6, 2, 1):
            kinds = ("cut", KIND, kind, SAME, kinds)
        tree = kinds
        for first in (74, 73, 72, 71):
            tree = ("cut", FIRST, first, kinds, tree)
        self.assertIs(check_meaning(TO_ALL, ALL, ("means", tree)), True)
        for value in spoilt(("means", tree)):
            self.assertIs(check_meaning(TO_ALL, ALL, value), False)
        for steps, _, here in nodes_of(tree):
            for other in resized(here):
                self.assertIs(check_meaning(TO_ALL, ALL, ("means", put_at(tree, steps, other))), False)

    def test_deep_values(self):
        deep = SAME
        for k in range(195):
            deep = ("cut", ("byte", 8), 1 + k, SAME, deep)
        self.assertIs(check_meaning(TO_ALL, ALL, ("means", deep)), False)
        part = box((FIRST, (70, 70)), (KIND, (200, 200)))
        self.assertIs(leaf_is_taken(TO_ALL, ALL, WHOLE_TREE, part, restricted(deep, TTL, 2, 255)), False)
        good = SAME
        for k in range(180, 0, -1):
            good = ("cut", ("byte", 8), k, SAME, good)
        self.assertIs(leaf_is_taken(TO_ALL, ALL, WHOLE_TREE, part, good), True)
        self.assertIs(check_meaning(TO_ALL, ALL, nested(("means", WHOLE_TREE), 150)), False)


if __name__ == "__main__":
    unittest.main()
