"""Settled walks and trees of cuts (points 5.2 to 5.4)."""

from gatewarden.books import MARK, is_decision
from gatewarden.boxes import halves
from gatewarden.ranges import contains
from gatewarden.shapes import first_text, is_number
from gatewarden.views import FIELDS
from gatewarden.walking import walked


def first_cut(a, low, high):
    """The least c greater than low and at most high for which a set has one of c - 1 and c, or None."""
    for start, end in a:
        if low < start <= high:
            return start
        if low <= end < high:
            return end + 1
    return None


def settled(book, box):
    """What `walk` returns for each view in a box; or the field and the cut that are not settled."""

    def asked(condition, mark):
        field, a = condition
        if field == MARK:
            return contains(a, mark)
        low, high = box[FIELDS.index(field)]
        return contains(a, low) if first_cut(a, low, high) is None else None

    result, open_one = walked(book, asked)
    if open_one is None:
        return result
    name, numbers = open_one
    lowest, highest = box[FIELDS.index(name)]
    return (name, first_cut(numbers, lowest, highest))


def is_walk(result):
    """True if what `settled` returns is that of a walk that came to its end."""
    return len(result) == 4


def cut_tree(book, box):
    """A tree of cuts for a book and a box."""
    result = settled(book, box)
    if is_walk(result):
        return ("is", result[0])
    field, at = result
    below, above = halves(box, FIELDS.index(field), at)
    return ("cut", field, at, cut_tree(book, below), cut_tree(book, above))


def check_cuts(book, box, value):
    """True if any value is a tree of cuts for a book and a box."""
    waiting = [(box, value)]
    while waiting:
        part, tree = waiting.pop()
        if is_cut(part, list(FIELDS), tree):
            _, field, at, below, above = tree
            lower, upper = halves(part, FIELDS.index(field), at)
            waiting.append((lower, below))
            waiting.append((upper, above))
        elif not _is_leaf(book, part, tree):
            return False
    return True


def is_cut(ranges, fields, tree):
    """True if any value is a cut through the ranges of some fields, whatever its two trees are."""
    if first_text(tree) != "cut" or len(tree) != 5:
        return False
    field, at = tree[1:3]
    if type(field) != str or field not in fields:
        return False
    low, high = ranges[fields.index(field)]
    return is_number(at, low + 1, high)


def _is_leaf(book, box, tree):
    """True if any value tells the decision of the settled walk in a box."""
    if first_text(tree) != "is" or len(tree) != 2 or not is_decision(tree[1]):
        return False
    result = settled(book, box)
    return is_walk(result) and result[0] == tree[1]


def count_views(book, box, decision):
    """The number of the tuples in a box for which the walk ends with a decision."""
    total = 0
    waiting = [box]
    while waiting:
        part = waiting.pop()
        result = settled(book, part)
        if not is_walk(result):
            waiting.extend(halves(part, FIELDS.index(result[0]), result[1]))
        elif result[0] == decision:
            total += _size(part)
    return total


def _size(box):
    """The number of the tuples that a box holds."""
    size = 1
    for low, high in box:
        size *= high - low + 1
    return size
