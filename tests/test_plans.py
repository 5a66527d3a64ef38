"""Points 6.1 to 6.5: plans."""

import itertools
import random
import unittest

from gatewarden.boxes import whole_box
from gatewarden.cuts import count_views
from gatewarden.plans import counted, differing, is_plan, joined_plans, led, narrowed, plan_of, tidied
from gatewarden.views import FIELDS, TOPS
from gatewarden.walking import decide
from tests.bookhelp import (
    B, DECISIONS, corners, ends_in, ends_in_plan, random_book, random_fields, random_view,
)
from tests.helpers import nested, odd_values, resized, spoilt

ACCEPT, DROP, REFUSE = ("accept",), ("drop",), ("refuse", 3)
WHOLE = 1
for _top in TOPS:
    WHOLE *= _top + 1


def preorder(plan):
    """The numbers of the nodes in the order in which they are first seen."""
    nodes, root = plan
    seen = []

    def visit(target):
        if isinstance(target, int) and target not in seen:
            seen.append(target)
            for _, other in nodes[target][1]:
                visit(other)

    visit(root)
    return seen


def is_canonical(plan):
    """Point 6.2 word by word, for what is a plan."""
    nodes, root = plan
    if nodes == ():
        return isinstance(root, tuple)
    if root != 0 or preorder(plan) != list(range(len(nodes))) or len(set(nodes)) < len(nodes):
        return False
    for field, branches in nodes:
        if len(branches) < 2:
            return False
        if any(one[1] == other[1] for one, other in zip(branches, branches[1:])):
            return False
        if any(isinstance(target, int) and nodes[target][0] <= field for _, target in branches):
            return False
    return True


def messed(plan, source):
    """A plan that leads alike, but has split branches, doubled and needless nodes, and other numbers."""
    nodes, root = [list(node) for node in plan[0]], plan[1]
    field_of = {k: node[0] for k, node in enumerate(nodes)}

    def wrapped(target, least):
        """A target that leads alike; a node that is doubled or needless may stand before it."""
        limit = field_of[target] if isinstance(target, int) else len(FIELDS)
        chance = source.random()
        if chance < 0.3 and limit > least:
            field = source.randrange(least, limit)
            nodes.append([field, split(((TOPS[field], target),), field)])
            field_of[len(nodes) - 1] = field
            return len(nodes) - 1
        if chance < 0.5 and isinstance(target, int):
            nodes.append([field_of[target], nodes[target][1]])
            field_of[len(nodes) - 1] = field_of[target]
            return len(nodes) - 1
        return target

    def split(branches, field):
        found = []
        low = 0
        for high, target in branches:
            if low < high and source.random() < 0.4:
                found.append((source.randint(low, high - 1), target))
            found.append((high, target))
            low = high + 1
        return tuple(found)

    for k in sorted(range(len(nodes)), key=lambda k: -nodes[k][0]):
        field, branches = nodes[k]
        branches = split(branches, field)
        nodes[k][1] = tuple((high, wrapped(target, field + 1)) for high, target in branches)
    root = wrapped(root, 0)
    for _ in range(source.randint(0, 2)):
        nodes.append([10, ((0, ("refuse", 200)), (1, ("refuse", 201)))])
    order = list(range(len(nodes)))
    source.shuffle(order)
    place = {old: new for new, old in enumerate(order)}
    found = tuple(
        (nodes[old][0], tuple((high, place.get(target, target)) for high, target in nodes[old][1])) for old in order)
    return (found, place.get(root, root))


def all_corners(*plans):
    return corners(*[ends_in_plan(plan) for plan in plans])


class PlanOf(unittest.TestCase):
    def test_example(self):
        book = (("main", (((("sport", ((5, 9),)),), ACCEPT),), DROP),)
        self.assertEqual(plan_of(book), (((3, ((4, DROP), (9, ACCEPT), (65535, DROP))),), 0))

    def test_document_book(self):
        plan = plan_of(B)
        self.assertIs(is_plan(plan), True)
        self.assertEqual(plan[1], 0)
        self.assertEqual([field for field, _ in plan[0]], [0, 5, 9, 9, 9])

    def test_right_for_every_part(self):
        source = random.Random(91)
        for _ in range(200):
            book = random_book(source)
            plan = plan_of(book)
            for view in corners(ends_in(book), ends_in_plan(plan)):
                self.assertEqual(led(plan, view), decide(book, view))
            for _ in range(10):
                view = random_view(source, ends_in(book))
                self.assertEqual(led(plan, view), decide(book, view))

    def test_canonical_word_by_word(self):
        source = random.Random(92)
        for _ in range(300):
            plan = plan_of(random_book(source))
            self.assertIs(is_plan(plan), True)
            self.assertIs(is_canonical(plan), True, plan)
            self.assertEqual(preorder(plan), list(range(len(plan[0]))))

    def test_one_decision_alone(self):
        for decision in DECISIONS:
            self.assertEqual(plan_of((("a", (), decision),)), ((), decision))
            book = (("a", (((("kind", ((6, 6),)),), decision), (((), ("count", 1))), (((), decision))), DROP),)
            self.assertEqual(plan_of(book), ((), decision))
        book = (("a", (((("kind", ((0, 255),)),), ACCEPT),), DROP),)
        self.assertEqual(plan_of(book), ((), ACCEPT))
        book = (("a", (((("kind", ()), ("sport", ((4, 5),))), ACCEPT),), DROP),)
        self.assertEqual(plan_of(book), ((), DROP))

    def test_books_that_decide_alike(self):
        one = ((("sport", ((5, 9),)),), ACCEPT)
        other = ((("sport", ((20, 30),)), ("kind", ((6, 6),))), REFUSE)
        plan = plan_of((("a", (one, other), DROP),))
        for book in [
            (("a", (other, one), DROP),),
            (("main", (one, ((), ("count", 7)), other), DROP),),
            (("a", (one, one, other, ((("sport", ((7, 7),)),), DROP)), DROP),),
            (("a", (one, ((("mark", ((4, 4),)),), ACCEPT), other, ((), DROP), ((), ACCEPT)), ACCEPT),),
            (("a", (((), ("jump", "b")), other), DROP), ("b", (one,), ("back",))),
            (("a", (((), ("jump", "b")),), ACCEPT), ("b", (other, one), DROP), ("c", (one,), ("refuse", 9))),
            (("a", (((("sport", ((5, 6),)),), ACCEPT), ((("sport", ((7, 9),)),), ACCEPT), other), DROP),),
            (("a", (((("sport", ((5, 9),)),), ("mark", 1)), ((("mark", ((1, 1),)),), ACCEPT), other), DROP),),
        ]:
            self.assertEqual(plan_of(book), plan)
        for book in [
            (("a", (one,), DROP),), (("a", (one, other), ACCEPT),), (("a", (other,), DROP),),
            (("a", (((("sport", ((5, 10),)),), ACCEPT), other), DROP),),
            (("a", (one, ((("sport", ((20, 30),)), ("kind", ((6, 6),))), ("refuse", 4))), DROP),),
        ]:
            self.assertNotEqual(plan_of(book), plan)

    def test_equal_exactly_if_they_decide_alike(self):
        source = random.Random(93)
        equal = 0
        for _ in range(60):
            fields = random_fields(source, 2, 1)
            books = [random_book(source, 2, fields, 2) for _ in range(8)]
            views = corners(*[ends_in(book) for book in books])
            for one, other in itertools.combinations(books, 2):
                alike = all(decide(one, view) == decide(other, view) for view in views)
                self.assertIs(plan_of(one) == plan_of(other), alike)
                equal += alike
        self.assertGreater(equal, 100)

    def test_sizes_for_which_a_call_ends_soon(self):
        source = random.Random(94)
        fields = {field: [1] if top == 1 else [top // 2] for field, top in zip(FIELDS, TOPS)}
        fields["sport"] = [5, 9]
        for _ in range(20):
            book = random_book(source, 8, fields)
            plan = plan_of(book)
            for decision in DECISIONS:
                self.assertEqual(counted(plan, decision), count_views(book, whole_box(), decision))
        rules = []
        names = [name for name in FIELDS]
        for k in range(8):
            chosen = [names[(3 * k + i) % 11] for i in range(3)]
            rules.append((tuple((name, ((0, fields[name][0] - 1),)) for name in chosen), DECISIONS[k % 4]))
        book = (("a", tuple(rules), ACCEPT),)
        plan = plan_of(book)
        self.assertIs(is_canonical(plan), True)
        for view in corners(ends_in(book)):
            self.assertEqual(led(plan, view), decide(book, view))


class IsPlan(unittest.TestCase):
    def test_plans(self):
        for value in [
            ((), ACCEPT), ((), ("refuse", 255)), (((0, ((1, DROP),)),), 0), (((0, ((1, DROP),)),), ("refuse", 0)),
            (((0, ((0, 1), (1, DROP))), (10, ((1, ACCEPT),))), 1), (((10, ((0, DROP), (1, DROP))), (0, ((1, 0),))), 1),
            (((3, ((0, 1), (65535, 1))), (4, ((65535, 2),)), (10, ((1, DROP),))), 0),
            (((3, ((65535, DROP),)), (3, ((65535, DROP),))), 0),
        ]:
            self.assertIs(is_plan(value), True, value)

    def test_branches(self):
        for field, top in enumerate(TOPS):
            for highs, right in [
                ((top,), True), ((0, top), True), ((top - 1, top), True), ((top + 1,), False), ((top - 1,), False),
                ((), False), ((top, top), False), ((top, 0), False), ((0, 0, top), False), ((-1, top), False),
                ((0, top, top + 1), False), ((0, top + 1), False),
            ]:
                node = (field, tuple((high, DROP) for high in highs))
                self.assertIs(is_plan(((node,), 0)), right, node)

    def test_targets(self):
        leaf = (9, ((6, DROP),))
        for field in range(11):
            for target, right in [
                (1, field < 9), (0, False), (2, False), (-1, False), (DROP, True), (("refuse", 256), False),
                (("back",), False), (("count", 3), False), (True, False), (1.0, False), ("1", False), (None, False),
                ((1,), False),
            ]:
                value = (((field, ((TOPS[field], target),)), leaf), 0)
                self.assertIs(is_plan(value), right, value)
                # The same holds for a node to which nothing leads.
                self.assertIs(is_plan((((field, ((TOPS[field], target),)), leaf), DROP)), right, value)

    def test_field_numbers(self):
        for field in (-1, 11, 100, True, "sport", None, 0.0):
            self.assertIs(is_plan((((field, ((1, DROP),)),), 0)), False)

    def test_roots(self):
        nodes = ((0, ((1, DROP),)), (1, ((255, DROP),)))
        for root, right in [
            (0, True), (1, True), (2, False), (-1, False), (True, False), (False, False), (None, False), (ACCEPT, True),
            (DROP, True), (("refuse", 0), True), (("refuse", True), False), (("back",), False), (["drop"], False),
            ("drop", False), ((), False), (0.0, False),
        ]:
            self.assertIs(is_plan((nodes, root)), right, root)
        self.assertIs(is_plan(((), 0)), False)
        self.assertIs(is_plan(((), -1)), False)

    def test_any_value(self):
        for value in odd_values():
            self.assertIs(is_plan(value), False)
            self.assertIs(is_plan((value, DROP)), False)
            self.assertIs(is_plan(((), value)), False)
            self.assertIs(is_plan(((value,), DROP)), False)
            self.assertIs(is_plan((((0, value),), DROP)), False)
            self.assertIs(is_plan((((0, (value,)),), DROP)), False)
            if type(value) is not int or value < 0:
                self.assertIs(is_plan((((value, ((1, DROP),)),), DROP)), False)
                self.assertIs(is_plan((((0, ((0, value), (1, DROP))),), DROP)), False)
        for plan in (plan_of(B), ((), ("refuse", 1)), (((10, ((0, ("refuse", 0)), (1, ("refuse", 1)))),), 0)):
            for value in list(spoilt(plan)) + list(resized(plan)):
                self.assertIs(is_plan(value), False, value)
        self.assertIs(is_plan((nested((), 150), DROP)), False)
        self.assertIs(is_plan((((0, ((1, nested(DROP, 150)),)),), DROP)), False)


class Tidied(unittest.TestCase):
    def test_messed_plans(self):
        source = random.Random(95)
        changed = 0
        for _ in range(200):
            plan = plan_of(random_book(source))
            other = messed(plan, source)
            before = repr(other)
            self.assertIs(is_plan(other), True, other)
            self.assertEqual(tidied(other), plan)
            self.assertEqual(tidied(plan), plan)
            self.assertEqual(repr(other), before)
            self.assertIsNone(differing(plan, other))
            self.assertIsNone(differing(other, plan))
            for decision in DECISIONS:
                self.assertEqual(counted(other, decision), counted(plan, decision))
            for view in [random_view(source, ends_in_plan(other)) for _ in range(10)]:
                self.assertEqual(led(other, view), led(plan, view))
            changed += other != plan
        self.assertGreater(changed, 150)

    def test_each_fault_alone(self):
        leaf = (10, ((0, DROP), (1, ACCEPT)))
        right = ((leaf,), 0)
        for plan in [
            right,
            (((10, ((0, DROP), (1, ACCEPT))), leaf), 1),
            (((3, ((65535, 1),)), leaf), 0),
            (((3, ((7, 1), (65535, 2))), leaf, leaf), 0),
            (((3, ((7, 2), (65535, 1))), leaf, leaf), 0),
            ((leaf, (3, ((7, 0), (8, 0), (65535, 0)))), 1),
            ((leaf, (0, ((0, DROP), (1, ("refuse", 4)))), (9, ((6, 0),))), 2),
        ]:
            self.assertIs(is_plan(plan), True)
            self.assertEqual(tidied(plan), right, plan)
        self.assertEqual(tidied((((3, ((7, DROP), (65535, DROP))), leaf), 0)), ((), DROP))
        self.assertEqual(tidied(((leaf, leaf), ACCEPT)), ((), ACCEPT))
        self.assertEqual(tidied((((8, ((5, DROP), (9, DROP), (1500, ACCEPT))),), 0)), (((8, ((9, DROP), (1500, ACCEPT))),), 0))

    def test_numbers_go_along_the_branches(self):
        low, high = (10, ((0, DROP), (1, ACCEPT))), (10, ((0, ACCEPT), (1, DROP)))
        plan = ((high, low, (3, ((5, 1), (9, 0), (65535, 1)))), 2)
        self.assertEqual(tidied(plan), (((3, ((5, 1), (9, 2), (65535, 1))), low, high), 0))


class Joined(unittest.TestCase):
    def test_against_the_decisions(self):
        source = random.Random(96)
        for _ in range(120):
            fields = random_fields(source, 3, 2)
            one, other = [plan_of(random_book(source, 5, fields)) for _ in range(2)]
            if source.random() < 0.5:
                one, other = messed(one, source), messed(other, source)
            pairs = {
                (a, b): source.choice(DECISIONS) for a in DECISIONS for b in DECISIONS if source.random() < 0.7
            }
            before = dict(pairs)
            found = joined_plans(one, other, pairs)
            self.assertEqual(pairs, before)
            self.assertIs(is_plan(found), True)
            self.assertIs(is_canonical(found), True)
            for view in all_corners(one, other, found):
                right = pairs.get((led(one, view), led(other, view)), DROP)
                self.assertEqual(led(found, view), right)

    def test_pairs_missing(self):
        one = plan_of((("a", (((("sport", ((5, 9),)),), ACCEPT),), REFUSE),))
        pairs = {}
        self.assertEqual(joined_plans(one, one, pairs), ((), DROP))
        self.assertEqual(pairs, {})
        pairs = {(ACCEPT, ACCEPT): ACCEPT}
        self.assertEqual(joined_plans(one, one, pairs), plan_of((("a", (((("sport", ((5, 9),)),), ACCEPT),), DROP),)))
        self.assertEqual(pairs, {(ACCEPT, ACCEPT): ACCEPT})
        self.assertEqual(joined_plans(((), ACCEPT), ((), DROP), {(DROP, ACCEPT): ACCEPT}), ((), DROP))
        self.assertEqual(joined_plans(((), ACCEPT), ((), DROP), {(ACCEPT, DROP): REFUSE}), ((), REFUSE))

    def test_unlike_fields(self):
        one = plan_of((("a", (((("kind", ((6, 6),)),), ACCEPT),), DROP),))
        other = plan_of((("a", (((("side", ((1, 1),)),), ACCEPT),), DROP),))
        both = plan_of((("a", (((("kind", ((6, 6),)), ("side", ((1, 1),))), ACCEPT),), DROP),))
        self.assertEqual(joined_plans(one, other, {(ACCEPT, ACCEPT): ACCEPT}), both)
        self.assertEqual(joined_plans(other, one, {(ACCEPT, ACCEPT): ACCEPT}), both)


class Narrowed(unittest.TestCase):
    def test_all_fields(self):
        source = random.Random(97)
        for field, top in enumerate(TOPS):
            for low, high in [
                (0, 0), (top, top), (0, top), (0, top - 1), (1, top), (top // 2, top // 2), (top // 3, 2 * top // 3),
            ]:
                for _ in range(4):
                    fields = random_fields(source, 2, 2)
                    fields[FIELDS[field]] = [source.randint(1, top)]
                    plan = plan_of(random_book(source, 5, fields))
                    if source.random() < 0.5:
                        plan = messed(plan, source)
                    found = narrowed(plan, field, low, high)
                    self.assertIs(is_plan(found), True)
                    self.assertIs(is_canonical(found), True)
                    edges = [[] for _ in TOPS]
                    edges[field] = [end for end in (low, high + 1) if 1 <= end <= top]
                    for view in corners(ends_in_plan(plan), ends_in_plan(found), edges):
                        right = led(plan, view) if low <= view[field] <= high else DROP
                        self.assertEqual(led(found, view), right)

    def test_by_hand(self):
        self.assertEqual(narrowed(((), ACCEPT), 3, 5, 9), (((3, ((4, DROP), (9, ACCEPT), (65535, DROP))),), 0))
        self.assertEqual(narrowed(((), ACCEPT), 3, 0, 65535), ((), ACCEPT))
        self.assertEqual(narrowed(((), DROP), 3, 5, 9), ((), DROP))
        self.assertEqual(narrowed(((), REFUSE), 0, 1, 1), (((0, ((0, DROP), (1, REFUSE))),), 0))


class Counted(unittest.TestCase):
    def test_against_the_cuts(self):
        source = random.Random(98)
        for _ in range(80):
            book = random_book(source)
            plan = plan_of(book)
            for decision in DECISIONS + [("refuse", 9)]:
                self.assertEqual(counted(plan, decision), count_views(book, whole_box(), decision))
            self.assertEqual(sum(counted(plan, decision) for decision in DECISIONS), WHOLE)

    def test_that_occur_and_that_do_not(self):
        self.assertEqual(counted(((), ACCEPT), ACCEPT), WHOLE)
        self.assertEqual(counted(((), ACCEPT), DROP), 0)
        plan = (((8, ((9, DROP), (1500, ("refuse", 1)))),), 0)
        self.assertEqual(counted(plan, DROP), WHOLE // 1501 * 10)
        self.assertEqual(counted(plan, ("refuse", 1)), WHOLE // 1501 * 1491)
        self.assertEqual(counted(plan, ("refuse", 0)), 0)
        self.assertEqual(counted(plan, ACCEPT), 0)
        self.assertEqual(counted((((0, ((1, DROP),)),), ("refuse", 0)), DROP), 0)


class Differing(unittest.TestCase):
    def test_first_in_ascending_order(self):
        source = random.Random(99)
        none = 0
        for _ in range(200):
            fields = random_fields(source, 3, 2)
            one, other = [plan_of(random_book(source, 3, fields)) for _ in range(2)]
            if source.random() < 0.4:
                one, other = messed(one, source), messed(other, source)
            found = differing(one, other)
            right = [view for view in all_corners(one, other) if led(one, view) != led(other, view)]
            self.assertEqual(found, right[0] if right else None)
            self.assertEqual(differing(other, one), found)
            none += found is None
        self.assertGreater(none, 5)

    def test_by_hand(self):
        one = plan_of((("a", (((("sport", ((5, 9),)), ("side", ((1, 1),))), ACCEPT),), DROP),))
        self.assertEqual(differing(one, ((), DROP)), (0, 0, 0, 5, 0, 0, 0, 0, 0, 0, 1))
        self.assertEqual(differing(one, ((), ACCEPT)), (0,) * 11)
        self.assertEqual(differing(((), ACCEPT), ((), DROP)), (0,) * 11)
        self.assertIsNone(differing(((), ACCEPT), ((), ACCEPT)))
        self.assertEqual(differing(((), ("refuse", 1)), ((), ("refuse", 2))), (0,) * 11)
        other = plan_of((("a", (((("sport", ((5, 8),)), ("side", ((1, 1),))), ACCEPT),), DROP),))
        self.assertEqual(differing(one, other), (0, 0, 0, 9, 0, 0, 0, 0, 0, 0, 1))

    def test_plans_that_lead_alike_though_not_equal(self):
        leaf = (10, ((0, DROP), (1, ACCEPT)))
        self.assertIsNone(differing(((leaf,), 0), (((3, ((7, 1), (65535, 2))), leaf, leaf), 0)))
        self.assertIsNone(differing((((0, ((1, DROP),)),), 0), ((), DROP)))


if __name__ == "__main__":
    unittest.main()
