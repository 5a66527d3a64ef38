"""The walk through a book (point 4.4)."""

from gatewarden.books import MARK
from gatewarden.ranges import contains
from gatewarden.views import FIELDS


def walk(book, view):
    """The decision, the mark at the end, the noted numbers, and the places of the rules that were met."""

    def asked(condition, mark):
        field, a = condition
        return contains(a, mark if field == MARK else view[FIELDS.index(field)])

    result, _ = walked(book, asked)
    return result


def decide(book, view):
    """The decision of the walk."""
    return walk(book, view)[0]


def walked(book, asked):
    """The walk through a book in which `asked(condition, mark)` tells whether a condition holds.

    It is the pair of what `walk` returns and None; or, if `asked` returns None, since
    this is not settled, the pair of None and the condition.
    """
    numbers = {book[i][0]: i for i in range(len(book))}
    i, k = 0, 0
    mark = 0
    counts, met, ways_back = [], [], []
    while True:
        _, rules, action = book[i]
        if k < len(rules):
            conditions, action = rules[k]
            holds, condition = _all_asked(conditions, mark, asked)
            if holds is None:
                return None, condition
            if holds:
                met.append((i, k))
            k += 1
            if not holds:
                continue
        if action[0] == "jump":
            ways_back.append((i, k))
            i, k = numbers[action[1]], 0
        elif action[0] == "back":
            i, k = ways_back.pop()
        elif action[0] == "mark":
            mark = action[1]
        elif action[0] == "count":
            counts.append(action[1])
        else:
            return (action, mark, tuple(counts), tuple(met)), None


def _all_asked(conditions, mark, asked):
    """True if all conditions hold; else False or None, with the first one that does not hold or is not settled."""
    for condition in conditions:
        answer = asked(condition, mark)
        if not answer:
            return answer, condition
    return True, None
