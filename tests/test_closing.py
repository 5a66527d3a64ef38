"""Points 9.2 to 9.5: lane boxes, settled runs, closing trees and papers."""

import random
import unittest

from gatewarden.closing import check_paper, paper_of, whole_lane
from gatewarden.cuts import settled
from gatewarden.lanes import sight_in
from gatewarden.talks import moved, side_of, talk_code
from gatewarden.views import FIELDS, is_sight
from tests.bookhelp import B, random_set
from tests.helpers import Trap, nested, odd_values, resized, spoilt
from tests.historyhelp import (
    ACCEPT, ALL, DROP, KEEPER, LEAST, NOTHING, books_in, gates_in, only, plain_comes_true, plain_shortest, random_history,
    random_watch,
)

NAMES = ["kind", "first", "firstport", "second", "secondport", "code", "length"]
LANE_TOPS = [255, 65535, 65535, 65535, 65535, 65535, 1500]
WHOLE = tuple((0, top) for top in LANE_TOPS)
LETTERS = {
    6: [(sender, interface, flags) for sender in (0, 1) for interface in (0, 1) for flags in range(8)],
    17: [(sender, interface, 0) for sender in (0, 1) for interface in (0, 1)],
}


def with_lane_range(lane, name, low, high):
    k = NAMES.index(name)
    return lane[:k] + ((low, high),) + lane[k + 1:]


def is_empty(lane):
    """True if no sight lies in a lane box from the sender 0, asked kind by kind."""
    (low, high), first, first_port, second, second_port, code, length = lane
    if first == second and first[0] == first[1]:
        return True
    for kind in range(low, high + 1):
        ports = kind in (6, 17) or first_port[0] == second_port[0] == 0
        codes = kind == 1 or code[0] == 0
        if ports and codes and length[1] >= LEAST.get(kind, 12):
            return False
    return True


def settled_run(watch, states, kind, letter, lane, code, length):
    """The joint state after the settled run and whether the watch comes true; None if it comes not to its end."""
    sender, interface, flags = letter
    ends = lane[1:5] if sender == 0 else lane[3:5] + lane[1:3]
    kinds = (kind, kind) if kind in (6, 17) else lane[0]

    def look(book, state):
        box = ((interface, interface), kinds) + ends + ((flags, flags), code, length)
        talk, side = 0, 0
        if kind in (6, 17):
            talk, side = talk_code(kind, state, sender, flags), side_of(state, sender)
        return settled(book, box + ((talk, talk), (side, side)))

    def run(row, held):
        after = list(held)
        order = range(len(row)) if interface == 0 else range(len(row) - 1, -1, -1)
        for i in order:
            result = look(row[i], held[i])
            if len(result) == 2:
                return None
            if result[0] != ACCEPT:
                return result, after
            then = moved(kind, held[i], sender, flags) if kind in (6, 17) else None
            after[i] = held[i] if then is None else then
        return result, after

    if watch[0] == "part":
        first, second = watch[1:]
        one, other = run(first, states[:len(first)]), run(second, states[len(first):])
        if one is None or other is None:
            return None
        return tuple(one[1] + other[1]), one[0][0] != other[0][0]
    row = watch[1] if watch[0] == "get" else (watch[1],)
    found = run(row, states)
    if found is None:
        return None
    result, after = found
    if watch[0] == "meet":
        return tuple(after), watch[2] in result[3]
    if watch[0] == "break":
        if states[0] == 0 or moved(kind, states[0], sender, flags) is None or result[0] != ACCEPT:
            return tuple(after), False
        other = look(watch[2], states[0])
        return None if len(other) == 2 else (tuple(after), other[0] != ACCEPT)
    if result[0] != watch[3]:
        return tuple(after), False
    # A book with one rule asks the conditions from the left.
    other = look((("a", ((watch[2], ACCEPT),), DROP),), 0)
    return None if len(other) == 2 else (tuple(after), other[0] == ACCEPT)


def is_right_tree(watch, lane, tree):
    """Point 9.4 word by word, for trees of the right form."""
    if tree[0] == "empty":
        return is_empty(lane)
    if tree[0] == "cut":
        _, name, at, below, above = tree
        low, high = lane[NAMES.index(name)]
        if not low < at <= high:
            return False
        return is_right_tree(watch, with_lane_range(lane, name, low, at - 1), below) and is_right_tree(
            watch, with_lane_range(lane, name, at, high), above)
    low, high = lane[0]
    if tree[0] == "loose":
        if low <= 6 <= high or low <= 17 <= high:
            return False
        zeros = (0,) * gates_in(watch)
        runs = [settled_run(watch, zeros, None, (0, side, 0), lane, lane[5], lane[6]) for side in (0, 1)]
        return all(run is not None and not run[1] for run in runs)
    _, states, lengths = tree
    if low != high or low not in (6, 17) or lane[5:] != WHOLE[5:] or (0,) * gates_in(watch) not in states:
        return False
    top = 4 if low == 6 else 2
    if list(states) != sorted(set(states)) or any(abs(state) > top for joint in states for state in joint):
        return False
    if any(len(joint) != gates_in(watch) for joint in states):
        return False
    if list(lengths) != sorted(set(lengths)) or any(not LEAST[low] < length <= 1500 for length in lengths):
        return False
    marks = [LEAST[low]] + list(lengths) + [1501]
    for joint in states:
        for letter in LETTERS[low]:
            for start, end in zip(marks, marks[1:]):
                run = settled_run(watch, joint, low, letter, lane, (0, 0), (start, end - 1))
                if run is None or run[1] or run[0] not in states:
                    return False
    return True


def leaves(lane, tree):
    """The pairs of the way to each leaf of a tree, as numbers of items, and its lane box."""
    if tree[0] != "cut":
        yield (), lane
        return
    _, name, at, below, above = tree
    low, high = lane[NAMES.index(name)]
    for way, part in leaves(with_lane_range(lane, name, low, at - 1), below):
        yield (3,) + way, part
    for way, part in leaves(with_lane_range(lane, name, at, high), above):
        yield (4,) + way, part


def at_way(tree, way):
    for k in way:
        tree = tree[k]
    return tree


def replaced(tree, way, other):
    """The tree with another one at the end of a way."""
    if not way:
        return other
    k = way[0]
    return tree[:k] + (replaced(tree[k], way[1:], other),) + tree[k + 1:]


def within(tree, lane):
    """A right tree for a lane box from one for a greater box."""
    if tree[0] != "cut":
        return tree
    _, name, at, below, above = tree
    low, high = lane[NAMES.index(name)]
    if at <= low:
        return within(above, lane)
    if at > high:
        return within(below, lane)
    return ("cut", name, at, within(below, with_lane_range(lane, name, low, at - 1)), within(
        above, with_lane_range(lane, name, at, high)))


def cut_once_more(source, tree):
    """A tree in which a leaf is cut, if it may be: it is as right as before."""
    ways = list(leaves(WHOLE, tree))
    source.shuffle(ways)
    for way, lane in ways:
        leaf = at_way(tree, way)
        names = NAMES if leaf[0] != "talks" else NAMES[1:5]
        names = [name for name in names if lane[NAMES.index(name)][0] < lane[NAMES.index(name)][1]]
        if names:
            name = source.choice(names)
            low, high = lane[NAMES.index(name)]
            at = source.choice((low + 1, high, source.randint(low + 1, high)))
            return replaced(tree, way, ("cut", name, at, leaf, leaf))
    return tree


def random_tree_change(source, tree):
    """A tree with something changed that may make it wrong."""
    way, lane = source.choice(list(leaves(WHOLE, tree)))
    leaf = at_way(tree, way)
    chance = source.randrange(5)
    if chance == 0 and way:
        cut = at_way(tree, way[:-1])
        other = source.choice([
            cut[:2] + (cut[2] + source.choice((-1, 1, 1000)),) + cut[3:], cut[:3] + (cut[4], cut[3]), cut[3], cut[4],
            cut[:1] + (source.choice(NAMES),) + cut[2:],
        ])
        return replaced(tree, way[:-1], other)
    if leaf[0] != "talks":
        zeros = (0,) * 1
        return replaced(tree, way, source.choice([("empty",), ("loose",), ("talks", (zeros,), ())]))
    _, states, lengths = leaf
    many = len(states[0])
    if chance == 1:
        k = source.randrange(len(states))
        return replaced(tree, way, ("talks", states[:k] + states[k + 1:], lengths))
    if chance == 2:
        added = tuple(source.randint(-5, 5) for _ in range(many))
        return replaced(tree, way, ("talks", tuple(sorted(set(states) | {added})), lengths))
    if chance == 3:
        added = source.choice((20, 21, 1500, 1501, source.randint(12, 1500)))
        return replaced(tree, way, ("talks", states, tuple(sorted(set(lengths) | {added}))))
    if lengths and source.random() < 0.5:
        k = source.randrange(len(lengths))
        return replaced(tree, way, ("talks", states, lengths[:k] + lengths[k + 1:]))
    return replaced(tree, way, source.choice([("empty",), ("loose",), ("talks", states[::-1], lengths)]))


def closed_states(watch, kind, lane, extra):
    """The states that some joint states lead to, in a lane box in which the runs of a closing tree are settled."""
    found = {(0,) * gates_in(watch)} | {extra}
    waiting = list(found)
    while waiting:
        joint = waiting.pop()
        for letter in LETTERS[kind]:
            run = settled_run(watch, joint, kind, letter, lane, (0, 0), (LEAST[kind], 1500))
            if run is None or run[1]:
                return None
            if run[0] not in found:
                found.add(run[0])
                waiting.append(run[0])
    return tuple(sorted(found))


def closed_watches(seed, many, gates=2):
    """Watches by chance that never come true, with their told papers."""
    source = random.Random(seed)
    found = []
    while len(found) < many:
        watch = random_watch(source, gates)
        paper = paper_of(watch)
        if paper[0] == "closed":
            found.append((watch, paper[1]))
    return source, found


def low_to_high(pair, number):
    return pair[0] <= number <= pair[1]


class Lanes(unittest.TestCase):
    def test_whole_lane(self):
        self.assertEqual(whole_lane(), WHOLE)
        self.assertIs(type(whole_lane()), tuple)


class Told(unittest.TestCase):
    def test_papers_are_right(self):
        source = random.Random(141)
        found = {}
        for _ in range(250):
            watch = random_watch(source)
            paper = paper_of(watch)
            fewest = plain_shortest(watch)
            found[(watch[0], fewest)] = found.get((watch[0], fewest), 0) + 1
            self.assertIs(check_paper(watch, paper), True)
            if fewest is None:
                self.assertEqual((paper[0], len(paper)), ("closed", 2))
                self.assertTrue(is_right_tree(watch, WHOLE, paper[1]))
            else:
                self.assertEqual((paper[0], len(paper)), ("history", 2))
                self.assertEqual(len(paper[1]), fewest)
                self.assertEqual(plain_comes_true(watch, paper[1]), fewest - 1)
        for word in ("part", "get", "break", "meet"):
            self.assertIn((word, None), found)
            self.assertTrue([1 for other, fewest in found if other == word and (fewest or 0) > 1], found)

    def test_papers_by_hand(self):
        self.assertEqual(paper_of(("part", (ALL,), (ALL, ALL)))[0], "closed")
        self.assertEqual(len(paper_of(("part", (ALL,), (KEEPER,)))[1]), 1)
        late = ("get", (KEEPER,), (("interface", ((1, 1),)), ("flags", ((2, 2),))), ACCEPT)
        paper = paper_of(late)
        self.assertEqual((paper[0], len(paper[1])), ("history", 3))
        answered = ("get", (B,), (("interface", ((1, 1),)), ("sport", ((81, 81),))), ACCEPT)
        paper = paper_of(answered)
        self.assertEqual((paper[0], len(paper[1])), ("history", 2))
        never = ("get", (B,), (("interface", ((1, 1),)), ("flags", ((1, 1),)), ("dport", ((80, 80),))), ACCEPT)
        self.assertEqual(paper_of(never)[0], "history")
        never = ("meet", only(("talk", ((4, 4),))), (0, 0))
        self.assertEqual(paper_of(never)[0], "closed")

    def test_papers_are_made_of_tuples(self):
        for watch in [("part", (B,), (B, B)), ("part", (B,), (ALL,)), ("break", B, NOTHING)]:
            waiting = [paper_of(watch)]
            while waiting:
                value = waiting.pop()
                self.assertIn(type(value), (tuple, int, str))
                if type(value) is tuple:
                    waiting.extend(value)


class RightPapers(unittest.TestCase):
    def test_cut_once_more(self):
        source, found = closed_watches(142, 40)
        for watch, tree in found:
            for _ in range(3):
                tree = cut_once_more(source, tree)
                self.assertIs(check_paper(watch, ("closed", tree)), True)
                self.assertTrue(is_right_tree(watch, WHOLE, tree))

    def test_cut_at_other_ends(self):
        watch = ("part", (KEEPER,), (KEEPER,))
        stream_leaf = ("talks", tuple((x, x) for x in range(-4, 5)), ())
        asking_leaf = ("talks", tuple((x, x) for x in range(-2, 3)), ())
        tree = ("cut", "kind", 17, ("cut", "kind", 7, ("cut", "kind", 6, ("loose",), stream_leaf), ("loose",)),
                ("cut", "kind", 18, asking_leaf, ("loose",)))
        self.assertIs(check_paper(watch, ("closed", tree)), True)
        for name in NAMES[1:5]:
            for at in (1, 77, 65535):
                self.assertIs(check_paper(watch, ("closed", ("cut", name, at, tree, tree))), True)
        # Codes and lengths have to be whole where there are talks.
        for name in ("code", "length"):
            self.assertIs(check_paper(watch, ("closed", ("cut", name, 20, tree, tree))), False)
        for at, wanted in [(5, False), (6, True), (7, False), (8, False)]:
            other = ("cut", "kind", 17, ("cut", "kind", 7, ("cut", "kind", at, ("loose",), stream_leaf), ("loose",)), tree[4])
            self.assertIs(check_paper(watch, ("closed", other)), wanted)

    def test_more_states(self):
        watch = ("part", (KEEPER,), (KEEPER,))
        states = tuple((x, y) for x in range(-4, 5) for y in range(-4, 5))
        tree = ("cut", "kind", 17, ("cut", "kind", 7, ("cut", "kind", 6, ("loose",), ("talks", states, ())), ("loose",)),
                ("cut", "kind", 18, ("talks", tuple((x, x) for x in range(-2, 3)), ()), ("loose",)))
        # In states that no history leads to, the two rows part.
        self.assertIs(check_paper(watch, ("closed", tree)), False)
        alone = ("meet", KEEPER, (0, 0))
        self.assertEqual(paper_of(alone)[0], "history")
        never = ("get", (KEEPER, KEEPER), (("flags", ((3, 3),)),), ACCEPT)
        tree = ("cut", "kind", 17, ("cut", "kind", 7, ("cut", "kind", 6, ("loose",), ("talks", states, ())), ("loose",)),
                ("cut", "kind", 18, ("talks", tuple((x, x) for x in range(-2, 3)), ()), ("loose",)))
        self.assertIs(check_paper(never, ("closed", tree)), True)
        for wrong in [states[1:], states[:-1], states[:7] + states[8:], states[::-1], states + ((5, 5),),
                      ((-5, 0),) + states, states + ((4, 4),), states[:40] + states[41:]]:
            other = replaced(tree, (3, 3, 4), ("talks", wrong, ()))
            self.assertIs(check_paper(never, ("closed", other)), is_right_tree(never, WHOLE, other))
        for wrong in [states[::-1], states + ((5, 5),), ((-5, 0),) + states, states + ((4, 4),), states[:40] + states[41:], ()]:
            other = replaced(tree, (3, 3, 4), ("talks", wrong, ()))
            self.assertIs(check_paper(never, ("closed", other)), False)

    def test_more_closed_states_by_chance(self):
        source, found = closed_watches(143, 25)
        taken = 0
        for watch, tree in found:
            for way, lane in leaves(WHOLE, tree):
                leaf = at_way(tree, way)
                if leaf[0] != "talks":
                    continue
                top = 4 if lane[0][0] == 6 else 2
                extra = tuple(source.randint(-top, top) for _ in range(gates_in(watch)))
                states = closed_states(watch, lane[0][0], lane, extra)
                if states is not None:
                    other = replaced(tree, way, ("talks", states, ()))
                    self.assertIs(check_paper(watch, ("closed", other)), True)
                    taken += len(states) > len(leaf[1])
                    break
        self.assertGreater(taken, 5)

    def test_more_lengths(self):
        watch = ("part", (KEEPER,), (KEEPER,))
        for kind, way in ((6, (3, 3, 4)), (17, (4, 3))):
            top = 4 if kind == 6 else 2
            tree = ("cut", "kind", 17, ("cut", "kind", 7, ("cut", "kind", 6, ("loose",), ("talks", tuple(
                (x, x) for x in range(-4, 5)), ())), ("loose",)), ("cut", "kind", 18, ("talks", tuple(
                    (x, x) for x in range(-2, 3)), ()), ("loose",)))
            states = tuple((x, x) for x in range(-top, top + 1))
            least = LEAST[kind]
            for lengths, wanted in [
                ((least + 1,), True), ((1500,), True), ((least + 1, least + 2, 700, 1499, 1500), True), ((least,), False),
                ((least - 1,), False), ((1501,), False), ((0,), False), ((700, 700), False), ((700, 699), False), ([700], False),
                ((True,), False), ((700.0,), False), (("700",), False), (None, False), (700, False), (((700,),), False),
                (tuple(range(least + 1, 1501)), True), ((-5,), False), ((10 ** 20,), False),
            ]:
                other = replaced(tree, way, ("talks", states, lengths))
                self.assertIs(check_paper(watch, ("closed", other)), wanted, lengths)

    def test_lengths_that_are_needed(self):
        book = only(("length", ((0, 99), (200, 299))), ("interface", ((0, 0),)))
        watch = ("part", (book,), (book,))
        tree = paper_of(watch)[1]
        needed = (100, 200, 300)
        for way, lane in leaves(WHOLE, tree):
            leaf = at_way(tree, way)
            if leaf[0] == "talks":
                for lengths in [needed, needed + (1000,), (50,) + needed, needed[1:], needed[:2], (100, 300), (100, 201, 300), ()]:
                    other = replaced(tree, way, ("talks", leaf[1], lengths))
                    self.assertIs(check_paper(watch, ("closed", other)), set(needed) <= set(lengths), lengths)

    def test_ends_at_the_least_lengths(self):
        for start in (12, 16, 18, 19, 20, 21):
            book = only(("length", ((start, 1499),)), ("talk", ((0, 2),)))
            for watch in [("part", (book,), (book,)), ("get", (book,), (), ("refuse", 1)), ("break", book, book)]:
                paper = paper_of(watch)
                self.assertEqual(paper[0], "closed")
                self.assertIs(check_paper(watch, paper), True)
                self.assertTrue(is_right_tree(watch, WHOLE, paper[1]))

    def test_states_of_a_kind(self):
        watch = ("get", (KEEPER,), (("flags", ((3, 3),)),), ACCEPT)
        tree = ("cut", "kind", 17, ("cut", "kind", 7, ("cut", "kind", 6, ("loose",), ("talks", tuple(
            (x,) for x in range(-4, 5)), ())), ("loose",)), ("cut", "kind", 18, ("talks", tuple(
                (x,) for x in range(-2, 3)), ()), ("loose",)))
        self.assertIs(check_paper(watch, ("closed", tree)), True)
        for top in (3, 4):
            states = tuple((x,) for x in range(-top, top + 1))
            self.assertIs(check_paper(watch, ("closed", replaced(tree, (4, 3), ("talks", states, ())))), False)
        for states in [((0,),), ((-1,), (0,), (1,)), ((0, 0),), ((),), ((0,), (0,)), (0,), ((-2,), (-1,), (1,), (2,))]:
            self.assertIs(check_paper(watch, ("closed", replaced(tree, (4, 3), ("talks", states, ())))), False)


class WrongPapers(unittest.TestCase):
    def test_trees_that_are_changed(self):
        source, found = closed_watches(144, 40)
        answers = {True: 0, False: 0}
        for watch, tree in found:
            for _ in range(25):
                other = random_tree_change(source, tree)
                wanted = is_right_tree(watch, WHOLE, other)
                self.assertIs(check_paper(watch, ("closed", other)), wanted)
                answers[wanted] += 1
        self.assertGreater(min(answers.values()), 50, answers)

    def test_the_tree_of_another_watch(self):
        source, found = closed_watches(145, 20)
        for watch, _ in found:
            for other, tree in found:
                # Joint states of other sizes are refused as well.
                self.assertIs(check_paper(watch, ("closed", tree)), is_right_tree(watch, WHOLE, tree))
        for _ in range(40):
            watch = random_watch(source, 2)
            if paper_of(watch)[0] == "history":
                for _, tree in found:
                    self.assertIs(check_paper(watch, ("closed", tree)), False)

    def test_leaves_left_out(self):
        watch = ("part", (B,), (B,))
        tree = paper_of(watch)[1]
        for way, _ in leaves(WHOLE, tree):
            for other in [(), ("empty",), ("loose",), None, ("is", DROP), (("loose",),), ("talks",), ("talks", (), ()), ("full",)]:
                if other != at_way(tree, way):
                    self.assertIs(check_paper(watch, ("closed", replaced(tree, way, other))), False)

    def test_two_gates_that_part_late(self):
        # The gates hold unlike states after a packet that the second one stops.
        early = only(("length", ((0, 100),)))
        watch = ("part", (KEEPER, early), (KEEPER,))
        self.assertEqual(paper_of(watch)[0], "history")
        self.assertEqual(len(paper_of(watch)[1]), 1)

    def test_any_value(self):
        watch = ("part", (KEEPER,), (KEEPER,))
        paper = paper_of(watch)
        for value in odd_values():
            self.assertIs(check_paper(watch, value), False)
            self.assertIs(check_paper(watch, ("closed", value)), False)
            self.assertIs(check_paper(watch, ("history", value)), False)
            self.assertIs(check_paper(watch, (value, paper[1])), False)
            self.assertIs(check_paper(watch, ("closed", ("cut", "kind", 6, value, value))), False)
            self.assertIs(check_paper(watch, ("closed", ("cut", "kind", value, paper[1], paper[1]))), False)
            self.assertIs(check_paper(watch, ("closed", ("cut", value, 6, paper[1], paper[1]))), False)
            self.assertIs(check_paper(watch, ("closed", replaced(paper[1], (3,), ("talks", value, ())))), False)
            self.assertIs(check_paper(watch, ("closed", replaced(paper[1], (4, 3), (value, (), ())))), False)
        for value in list(spoilt(paper)) + list(resized(paper)):
            self.assertIs(check_paper(watch, value), False, value)
        for way, _ in leaves(WHOLE, paper[1]):
            for leaf in resized(at_way(paper[1], way)):
                self.assertIs(check_paper(watch, ("closed", replaced(paper[1], way, leaf))), False)
        for word in ("Closed", "", "history", "open", None, 1, b"closed", Trap(), ("closed",)):
            self.assertIs(check_paper(watch, (word, paper[1])), False)
        self.assertIs(check_paper(watch, nested(paper, 150)), False)
        self.assertIs(check_paper(watch, ("closed", nested(paper[1], 150))), False)

    def test_deep_trees(self):
        watch = ("part", (KEEPER,), (KEEPER,))
        good = tree = paper_of(watch)[1]
        for at in range(180, 0, -1):
            tree = ("cut", "firstport", at, good, tree)
        self.assertIs(check_paper(watch, ("closed", tree)), True)
        tree = ("empty",)
        for at in range(180, 0, -1):
            tree = ("cut", "firstport", at, good, tree)
        self.assertIs(check_paper(watch, ("closed", tree)), False)


class Leaves(unittest.TestCase):
    """Single leaves in boxes that are cut out of the whole one."""

    WATCH = ("part", (KEEPER,), (KEEPER,))

    def leaf_in(self, watch, lane, leaf):
        """Whether a leaf is taken for a lane box, around which all is cut off with right trees."""
        right = paper_of(watch)[1]
        box, cuts = WHOLE, []
        for name, (low, high) in zip(NAMES, lane):
            start, end = box[NAMES.index(name)]
            if high < end:
                cuts.append((name, high + 1, None, within(right, with_lane_range(box, name, high + 1, end))))
            if low > start:
                cuts.append((name, low, within(right, with_lane_range(box, name, start, low - 1)), None))
            box = with_lane_range(box, name, low, high)
        tree = leaf
        for name, at, below, above in cuts[::-1]:
            tree = ("cut", name, at, below or tree, above or tree)
        return check_paper(watch, ("closed", tree))

    def test_loose(self):
        for kinds, wanted in [
            ((0, 5), True), ((7, 16), True), ((18, 255), True), ((0, 6), False), ((6, 6), False), ((6, 7), False),
            ((16, 17), False), ((17, 17), False), ((17, 30), False), ((0, 255), False), ((1, 1), True), ((3, 4), True),
        ]:
            lane = (kinds,) + WHOLE[1:]
            self.assertIs(self.leaf_in(self.WATCH, lane, ("loose",)), wanted, kinds)

    def test_loose_is_not_settled(self):
        book = only(("kind", ((3, 9),)))
        watch = ("part", (book,), (book,))
        self.assertIs(self.leaf_in(watch, ((0, 5),) + WHOLE[1:], ("loose",)), False)
        self.assertIs(self.leaf_in(watch, ((0, 2),) + WHOLE[1:], ("loose",)), True)
        self.assertIs(self.leaf_in(watch, ((3, 5),) + WHOLE[1:], ("loose",)), True)
        for field, name, at in [("source", "first", 9), ("destination", "second", 9), ("length", "length", 40)]:
            book = only((field, ((at, 1500),)), default=("refuse", 1))
            watch = ("part", (book,), (book,))
            lane = ((0, 5),) + WHOLE[1:]
            self.assertIs(self.leaf_in(watch, lane, ("loose",)), False, field)
            self.assertIs(self.leaf_in(watch, with_lane_range(lane, name, 0, at - 1), ("loose",)), True)
            self.assertIs(self.leaf_in(watch, with_lane_range(lane, name, at, 1500), ("loose",)), True)
            self.assertIs(self.leaf_in(watch, with_lane_range(lane, name, at - 1, 1500), ("loose",)), False)

    def test_talks_where_there_are_none(self):
        for kind in (0, 1, 5, 7, 16, 18, 40, 255):
            lane = ((kind, kind),) + WHOLE[1:]
            self.assertIs(self.leaf_in(self.WATCH, lane, ("loose",)), True)
            for states in [((0, 0),), ((-1, -1), (0, 0), (1, 1)), ()]:
                self.assertIs(self.leaf_in(self.WATCH, lane, ("talks", states, ())), False, kind)
        lane = ((5, 6),) + WHOLE[1:]
        self.assertIs(self.leaf_in(self.WATCH, lane, ("talks", tuple((x, x) for x in range(-4, 5)), ())), False)

    def test_leaves_with_more_items(self):
        empty = ((0, 255), (5, 5), (0, 9), (5, 5), (3, 3), (0, 65535), (0, 1500))
        loose = ((7, 16),) + WHOLE[1:]
        for lane, leaf in [(empty, ("empty",)), (loose, ("loose",))]:
            self.assertIs(self.leaf_in(self.WATCH, lane, leaf), True)
            for other in [leaf + ((),), leaf + (None,), leaf * 2, leaf + leaf * 2, list(leaf), leaf[0], (leaf,), leaf + ((), (), (), ())]:
                self.assertIs(self.leaf_in(self.WATCH, lane, other), False)
        self.assertIs(self.leaf_in(self.WATCH, loose, ("empty",)), False)

    def test_loose_asks_both_interfaces(self):
        for interface in (0, 1):
            book = only(("interface", ((interface, interface),)), ("kind", ((40, 40),)))
            for decision in (ACCEPT, DROP):
                watch = ("get", (book,), (("kind", ((40, 41),)),), decision)
                lane = ((40, 40),) + WHOLE[1:]
                self.assertEqual(paper_of(watch)[0], "history")
                tree = ("cut", "kind", 40, ("empty",), ("cut", "kind", 41, ("loose",), ("loose",)))
                self.assertFalse(is_right_tree(watch, lane, ("loose",)))
                self.assertIs(check_paper(watch, ("closed", tree)), False)

    def test_empty_where_talks_are(self):
        for kinds in ((6, 6), (17, 17), (0, 255), (5, 6)):
            for first, second in [((5, 5), (5, 5)), ((5, 5), (5, 6)), ((5, 6), (5, 5)), ((5, 5), (6, 6)), ((0, 0), (0, 0))]:
                lane = (kinds, first, (0, 9), second, (3, 3), (0, 65535), (0, 1500))
                self.assertIs(self.leaf_in(self.WATCH, lane, ("empty",)), is_empty(lane), lane)

    def test_empty(self):
        cases = {
            ((0, 255), (5, 5), (0, 9), (5, 5), (0, 9), (0, 65535), (0, 1500)): True,
            ((0, 255), (5, 5), (0, 9), (5, 6), (0, 9), (0, 65535), (0, 1500)): False,
            ((0, 255), (5, 6), (0, 9), (5, 6), (0, 9), (0, 65535), (0, 1500)): False,
            ((7, 16), (0, 9), (1, 9), (0, 9), (0, 9), (0, 65535), (0, 1500)): True,
            ((7, 16), (0, 9), (0, 9), (0, 9), (1, 9), (0, 65535), (0, 1500)): True,
            ((7, 17), (0, 9), (1, 9), (0, 9), (1, 9), (0, 65535), (0, 1500)): False,
            ((2, 5), (0, 9), (0, 9), (0, 9), (0, 9), (1, 65535), (0, 1500)): True,
            ((1, 5), (0, 9), (0, 9), (0, 9), (0, 9), (1, 65535), (0, 1500)): False,
            ((6, 6), (0, 9), (0, 9), (0, 9), (0, 9), (1, 65535), (0, 1500)): True,
            ((6, 6), (0, 9), (0, 9), (0, 9), (0, 9), (0, 0), (0, 19)): True,
            ((6, 6), (0, 9), (0, 9), (0, 9), (0, 9), (0, 0), (0, 20)): False,
            ((17, 17), (0, 9), (0, 9), (0, 9), (0, 9), (0, 0), (0, 17)): True,
            ((17, 17), (0, 9), (0, 9), (0, 9), (0, 9), (0, 0), (0, 18)): False,
            ((1, 1), (0, 9), (0, 9), (0, 9), (0, 9), (0, 9), (0, 15)): True,
            ((1, 1), (0, 9), (0, 9), (0, 9), (0, 9), (0, 9), (3, 16)): False,
            ((2, 5), (0, 9), (0, 9), (0, 9), (0, 9), (0, 9), (0, 11)): True,
            ((2, 5), (0, 9), (0, 9), (0, 9), (0, 9), (0, 9), (0, 12)): False,
            ((0, 255), (0, 9), (1, 9), (0, 9), (0, 9), (1, 9), (0, 1500)): True,
            ((0, 255), (0, 9), (0, 9), (0, 9), (0, 9), (1, 9), (0, 15)): True,
            ((0, 255), (0, 9), (1, 9), (0, 9), (0, 9), (0, 9), (0, 17)): True,
        }
        for lane, wanted in cases.items():
            self.assertIs(is_empty(lane), wanted, lane)
            self.assertIs(sight_in(lane) is None, wanted, lane)

    def test_empty_by_chance(self):
        source = random.Random(146)
        answers = {True: 0, False: 0}
        for _ in range(400):
            lane = []
            for k, near in enumerate([(0, 1, 2, 5, 6, 7, 16, 17, 18, 255), (0, 4, 5), (0, 1, 9), (0, 4, 5), (0, 1, 9), (0, 1, 7),
                                      (0, 11, 12, 15, 16, 17, 18, 19, 20, 1500)]):
                lane.append(tuple(sorted((source.choice(near), source.choice(near)))))
            lane = tuple(lane)
            wanted = is_empty(lane)
            answers[wanted] += 1
            sight = sight_in(lane)
            self.assertIs(sight is None, wanted, lane)
            if sight is not None:
                self.assertIs(is_sight(sight), True)
                told = (sight[1],) + sight[2:6] + sight[7:]
                self.assertTrue(all(low <= number <= high for number, (low, high) in zip(told, lane)), (lane, sight))
            if not low_to_high(lane[0], 6) and not low_to_high(lane[0], 17):
                self.assertIs(self.leaf_in(self.WATCH, lane, ("empty",)), wanted, lane)
        self.assertGreater(min(answers.values()), 50, answers)


class Histories(unittest.TestCase):
    def test_longer_histories(self):
        watch = ("get", (KEEPER,), (("flags", ((2, 2),)),), ACCEPT)
        talk = ((0, 6, 9, 7, 4, 80, 1, 0, 20), (1, 6, 4, 80, 9, 7, 1, 0, 20), (0, 6, 9, 7, 4, 80, 2, 0, 20))
        self.assertEqual(len(paper_of(watch)[1]), 3)
        for history, wanted in [
            (talk, True), (talk[:2], False), (talk[:1], False), ((), False), (talk + talk[-1:], False), (talk[:1] + talk, True),
            (talk[::-1], False), (talk[1:], False), (((0, 40, 1, 0, 2, 0, 0, 0, 30),) + talk, True), (list(talk), False),
            (talk[:2] + (list(talk[2]),), False), (talk[:2] + (talk[2][:8],), False), (talk[:2] + (talk[2][:8] + (19,),), False),
            ((talk[0][:6] + (True,) + talk[0][7:],) + talk[1:], False), (talk[0], False), ((talk,), False),
        ]:
            self.assertIs(check_paper(watch, ("history", history)), wanted, history)
        self.assertIs(check_paper(watch, ("closed", talk)), False)
        self.assertIs(check_paper(watch, ("history", talk, ())), False)
        self.assertIs(check_paper(watch, ["history", talk]), False)

    def test_against_another_run(self):
        source = random.Random(147)
        answers = {True: 0, False: 0}
        for _ in range(150):
            watch = random_watch(source)
            for _ in range(4):
                history = random_history(source, books_in(watch))
                number = plain_comes_true(watch, history)
                if number is not None and source.random() < 0.7:
                    history = history[:number + 1]
                wanted = history != () and plain_comes_true(watch, history) == len(history) - 1
                self.assertIs(check_paper(watch, ("history", history)), wanted)
                answers[wanted] += 1
        self.assertGreater(min(answers.values()), 50, answers)

    def test_never_both_words(self):
        source = random.Random(148)
        for _ in range(60):
            watch = random_watch(source, 2)
            if paper_of(watch)[0] == "closed":
                for _ in range(5):
                    history = random_history(source, books_in(watch))
                    self.assertIsNone(plain_comes_true(watch, history))


class Sizes(unittest.TestCase):
    """Questions of the sizes for which a call ends soon."""

    def test_many_ends(self):
        source = random.Random(149)
        ends = {"source": [9, 500, 70], "destination": [4, 900, 33], "sport": [7, 1024], "dport": [80, 443], "talk": [2, 6]}
        tops = {name: 6 if name == "talk" else 65535 for name in ends}
        for name in ends:
            ends[name] = sorted(ends[name])
        rules = []
        for k in range(4):
            names = source.sample(sorted(ends), 3)
            conditions = tuple((name, random_set(source, ends[name], tops[name]) or ((0, 0),)) for name in names)
            rules.append((conditions, ACCEPT if k % 2 else ("refuse", k)))
        book = (("main", tuple(rules), DROP),)
        for watch in [("part", (book, KEEPER), (book,)), ("part", (book,), (book,)), ("meet", book, (0, 3))]:
            paper = paper_of(watch)
            self.assertIs(check_paper(watch, paper), True)

    def test_depth(self):
        book = tuple([("main", tuple(
            (((field, ((at, 65535),)),), ("refuse", at)) for field in ("source", "sport", "destination", "dport")
            for at in (30, 20)
        ), DROP)])
        paper = paper_of(("part", (book,), (book,)))

        def depth(value):
            return 1 + max(map(depth, value), default=0) if type(value) is tuple else 0

        self.assertLessEqual(depth(paper), 200)
        self.assertEqual(FIELDS[2:6], ["source", "sport", "destination", "dport"])


if __name__ == "__main__":
    unittest.main()
