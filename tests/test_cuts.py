"""Points 5.2 to 5.4: settled walks, trees of cuts, and counts."""

import itertools
import random
import unittest

from gatewarden.boxes import box_of, in_box, is_box, whole_box
from gatewarden.cuts import check_cuts, count_views, cut_tree, settled
from gatewarden.views import FIELDS, TOPS
from gatewarden.walking import walk
from tests.bookhelp import B, DECISIONS, ends_in, holds, random_book, random_view
from tests.helpers import Trap, nested, odd_values, resized, spoilt

DROP = ("drop",)


def with_range(box, field, low, high):
    """A box with another range of a field."""
    k = FIELDS.index(field)
    return box[:k] + ((low, high),) + box[k + 1:]


def random_box(source, ends):
    """A box whose ranges begin and end at or beside some ends."""
    box = []
    for k, top in enumerate(TOPS):
        near = [number for end in ends[k] for number in (end - 1, end)] + [0, top, source.randint(0, top)]
        box.append(tuple(sorted((source.choice(near), source.choice(near)))))
    return tuple(box)


def plain_settled(book, box):
    """The settled walk, found with the sets as lists of all their numbers between two ends."""
    words = [chain[0] for chain in book]
    mark, counts, met, back, place = 0, [], [], [], (0, 0)
    while True:
        i, k = place
        place = (i, k + 1)
        if k == len(book[i][1]):
            action = book[i][2]
        else:
            conditions, action = book[i][1][k]
            good = True
            for field, a in conditions:
                if field == "mark":
                    low = high = mark
                else:
                    low, high = box[FIELDS.index(field)]
                marks = sorted({low, high} | {x for pair in a for x in (pair[0], pair[1] + 1) if low < x <= high})
                cuts = [c for c in marks if c > low and holds(a, c - 1) != holds(a, c)]
                if cuts:
                    return (field, cuts[0])
                if not holds(a, low):
                    good = False
                    break
            if not good:
                continue
            met.append((i, k))
        if action[0] == "jump":
            back.append(place)
            place = (words.index(action[1]), 0)
        elif action[0] == "back":
            place = back.pop()
        elif action[0] == "mark":
            mark = action[1]
        elif action[0] == "count":
            counts.append(action[1])
        else:
            return (action, mark, tuple(counts), tuple(met))


def other_tree(source, book, box, depth):
    """A right tree that is cut at any numbers, and more often than needed."""
    result = settled(book, box)
    roomy = [k for k in range(11) if box[k][0] < box[k][1]]
    if depth > 0 and roomy and source.random() < 0.7:
        k = source.choice(roomy)
        field, at = FIELDS[k], source.randint(box[k][0] + 1, box[k][1])
    elif len(result) == 4:
        return ("is", result[0])
    else:
        field, at = result
    low, high = box[FIELDS.index(field)]
    below = other_tree(source, book, with_range(box, field, low, at - 1), depth - 1)
    above = other_tree(source, book, with_range(box, field, at, high), depth - 1)
    return ("cut", field, at, below, above)


def is_right(book, box, tree):
    """Point 5.3 word by word, for trees of the right form."""
    if tree[0] == "is":
        return settled(book, box)[0] == tree[1]
    low, high = box[FIELDS.index(tree[1])]
    if not low < tree[2] <= high:
        return False
    return is_right(book, with_range(box, tree[1], low, tree[2] - 1), tree[3]) and is_right(
        book, with_range(box, tree[1], tree[2], high), tree[4])


def changed_once(tree):
    """Trees that differ from a tree in one decision or one cut."""
    if tree[0] == "is":
        for decision in DECISIONS:
            if decision != tree[1]:
                yield ("is", decision)
        return
    _, field, at, below, above = tree
    yield ("cut", field, at, above, below)
    yield ("cut", field, at + 1, below, above)
    yield ("cut", field, at - 1, below, above)
    for other in changed_once(below):
        yield ("cut", field, at, other, above)
    for other in changed_once(above):
        yield ("cut", field, at, below, other)


class Settled(unittest.TestCase):
    def test_example(self):
        self.assertEqual(settled(B, whole_box()), ("talk", 2))

    def test_boxes_of_one_view(self):
        source = random.Random(82)
        for _ in range(200):
            book = random_book(source)
            for _ in range(5):
                view = random_view(source, ends_in(book))
                self.assertEqual(settled(book, box_of(view)), walk(book, view))

    def test_against_another_settled_walk(self):
        source = random.Random(83)
        ended = 0
        for _ in range(400):
            book = random_book(source)
            for _ in range(8):
                box = random_box(source, ends_in(book))
                self.assertIs(is_box(box), True)
                found = settled(book, box)
                self.assertEqual(found, plain_settled(book, box))
                ended += len(found) == 4
        self.assertGreater(ended, 500)

    def test_the_same_for_each_view_in_the_box(self):
        source = random.Random(84)
        for _ in range(200):
            book = random_book(source)
            box = random_box(source, ends_in(book))
            found = settled(book, box)
            if len(found) == 4:
                for _ in range(10):
                    view = tuple(source.choice((low, high, source.randint(low, high))) for low, high in box)
                    self.assertIs(in_box(box, view), True)
                    self.assertEqual(walk(book, view), found)

    def test_conditions_are_asked_from_the_left(self):
        no, maybe, yes = ("kind", ()), ("sport", ((5, 9),)), ("dport", ((0, 65535),))
        for conditions, right in [
            ((no, maybe), DROP), ((maybe, no), ("sport", 5)), ((yes, maybe), ("sport", 5)), ((yes, no, maybe), DROP),
            ((maybe, ("dport", ((7, 7),))), ("sport", 5)), ((("dport", ((7, 7),)), maybe), ("dport", 7)),
        ]:
            book = (("a", ((conditions, ("accept",)),), DROP),)
            found = settled(book, whole_box())
            self.assertEqual(found, right if right != DROP else (DROP, 0, (), ()))

    def test_the_least_cut(self):
        a = ((0, 3), (5, 5), (8, 9), (65535, 65535))
        book = (("a", (((("dport", a),), ("accept",)),), DROP),)
        for low, high, cut in [
            (0, 65535, 4), (0, 3, None), (1, 4, 4), (3, 4, 4), (4, 4, None), (4, 5, 5), (4, 9, 5), (5, 9, 6), (6, 7, None),
            (6, 8, 8), (8, 10, 10), (8, 9, None), (10, 65534, None), (10, 65535, 65535), (65535, 65535, None),
        ]:
            found = settled(book, with_range(whole_box(), "dport", low, high))
            if cut is None:
                self.assertEqual(found[0], ("accept",) if holds(a, low) else DROP, (low, high))
            else:
                self.assertEqual(found, ("dport", cut), (low, high))

    def test_the_mark_is_known(self):
        book = (("a", (
            ((("mark", ((0, 0),)),), ("mark", 7)),
            ((("mark", ((7, 7),)), ("kind", ((0, 255),))), ("count", 2)),
            ((("mark", ((0, 6),)), ("kind", ((6, 6),))), ("accept",)),
        ), ("refuse", 9)),)
        self.assertEqual(settled(book, whole_box()), (("refuse", 9), 7, (2,), ((0, 0), (0, 1))))


class Trees(unittest.TestCase):
    def test_told_trees(self):
        source = random.Random(85)
        for _ in range(150):
            book = random_book(source)
            for box in (whole_box(), random_box(source, ends_in(book))):
                tree = cut_tree(book, box)
                self.assertIs(check_cuts(book, box, tree), True)
                self.assertIs(is_right(book, box, tree), True)

    def test_other_right_trees(self):
        source = random.Random(86)
        for _ in range(150):
            book = random_book(source, 5)
            box = random_box(source, ends_in(book))
            tree = other_tree(source, book, box, 4)
            self.assertIs(check_cuts(book, box, tree), True, tree)

    def test_trees_that_are_changed(self):
        source = random.Random(87)
        for _ in range(40):
            book = random_book(source, 5)
            box = random_box(source, ends_in(book))
            for tree in (cut_tree(book, box), other_tree(source, book, box, 3)):
                for other in changed_once(tree):
                    self.assertIs(check_cuts(book, box, other), is_right(book, box, other), other)

    def test_not_settled(self):
        for decision in DECISIONS:
            self.assertIs(check_cuts(B, whole_box(), ("is", decision)), False)

    def test_cuts_at_and_outside_the_ends(self):
        book = (("a", (), DROP),)
        box = with_range(whole_box(), "sport", 5, 9)
        leaf = ("is", DROP)
        for at in range(3, 13):
            self.assertIs(check_cuts(book, box, ("cut", "sport", at, leaf, leaf)), 6 <= at <= 9, at)
        box = with_range(whole_box(), "sport", 5, 5)
        for at in range(4, 7):
            self.assertIs(check_cuts(book, box, ("cut", "sport", at, leaf, leaf)), False)
        for field, top in zip(FIELDS, TOPS):
            for at, right in [(0, False), (1, True), (top, True), (top + 1, False), (-1, False)]:
                self.assertIs(check_cuts(book, whole_box(), ("cut", field, at, leaf, leaf)), right, (field, at))
        for field in ("mark", "", "Sport", 3, None, ("sport",)):
            self.assertIs(check_cuts(book, whole_box(), ("cut", field, 1, leaf, leaf)), False)
        twice = ("cut", "sport", 7, ("cut", "sport", 7, leaf, leaf), leaf)
        self.assertIs(check_cuts(book, whole_box(), twice), False)
        twice = ("cut", "sport", 7, ("cut", "sport", 6, leaf, leaf), ("cut", "sport", 8, leaf, leaf))
        self.assertIs(check_cuts(book, whole_box(), twice), True)

    def test_any_value(self):
        for value in odd_values():
            self.assertIs(check_cuts(B, whole_box(), value), False)
            self.assertIs(check_cuts(B, whole_box(), ("is", value)), False)
            self.assertIs(check_cuts(B, whole_box(), (value, DROP)), False)
            self.assertIs(check_cuts(B, whole_box(), ("cut", "talk", 2, value, value)), False)
            self.assertIs(check_cuts(B, whole_box(), ("cut", "talk", value, ("is", DROP), ("is", DROP))), False)
            self.assertIs(check_cuts(B, whole_box(), ("cut", value, 2, ("is", DROP), ("is", DROP))), False)
        refusing = (("a", (((("side", ((1, 1),)),), ("refuse", 1)),), ("refuse", 0)),)
        for book in (B, refusing):
            tree = cut_tree(book, whole_box())
            for value in list(spoilt(tree)) + list(resized(tree)):
                self.assertIs(check_cuts(book, whole_box(), value), False, value)
        for leaf in resized(("is", DROP)):
            self.assertIs(check_cuts((("a", (), DROP),), whole_box(), leaf), False)
        self.assertIs(check_cuts((("a", (), DROP),), whole_box(), nested(("is", DROP), 150)), False)

    def test_other_words(self):
        book = (("a", (), DROP),)
        leaf = ("is", DROP)
        for word in ("cut", "is", "Cut", "cuts", "", "sport", None, 1, b"cut", ("cut",), Trap()):
            right = type(word) is str and word == "cut"
            self.assertIs(check_cuts(book, whole_box(), (word, "sport", 5, leaf, leaf)), right)
        for word in ("is", "cut", "Is", "", "drop", None, 1, b"is", ("is",), Trap()):
            right = type(word) is str and word == "is"
            self.assertIs(check_cuts(book, whole_box(), (word, DROP)), right)
        self.assertIs(check_cuts(book, whole_box(), ("cut", Trap(), 5, leaf, leaf)), False)
        self.assertIs(check_cuts(book, whole_box(), ("cut", "sport", Trap(), leaf, leaf)), False)

    def test_deep_trees(self):
        book = (("a", (), DROP),)
        tree = ("is", DROP)
        for at in range(190, 0, -1):
            tree = ("cut", "dport", at, ("is", DROP), tree)
        self.assertIs(check_cuts(book, whole_box(), tree), True)
        wrong = ("is", ("accept",))
        for at in range(190, 0, -1):
            wrong = ("cut", "dport", at, ("is", DROP), wrong)
        self.assertIs(check_cuts(book, whole_box(), wrong), False)


class Counts(unittest.TestCase):
    def test_all_decisions_together(self):
        source = random.Random(88)
        for _ in range(100):
            book = random_book(source)
            for box in (whole_box(), random_box(source, ends_in(book))):
                size = 1
                for low, high in box:
                    size *= high - low + 1
                self.assertEqual(sum(count_views(book, box, decision) for decision in DECISIONS), size)
                self.assertEqual(count_views(book, box, ("refuse", 77)), 0)

    def test_by_counting_one_by_one(self):
        source = random.Random(89)
        for _ in range(40):
            book = random_book(source)
            ends = ends_in(book)
            box = []
            for k, top in enumerate(TOPS):
                low = source.choice([end - 1 for end in ends[k]] or [source.randint(0, top)])
                box.append((low, min(top, low + (2 if ends[k] else 0))))
            found = {decision: 0 for decision in DECISIONS}
            for view in itertools.product(*[range(low, high + 1) for low, high in box]):
                found[walk(book, view)[0]] += 1
            for decision in DECISIONS:
                self.assertEqual(count_views(book, tuple(box), decision), found[decision])

    def test_one_decision_alone(self):
        book = (("a", (), ("refuse", 4)),)
        size = 1
        for top in TOPS:
            size *= top + 1
        self.assertEqual(count_views(book, whole_box(), ("refuse", 4)), size)
        self.assertEqual(count_views(book, whole_box(), ("refuse", 5)), 0)
        self.assertEqual(count_views(book, box_of((0,) * 11), ("refuse", 4)), 1)


if __name__ == "__main__":
    unittest.main()
