"""The cases of books (points 20.1 and 20.2)."""

from gatewarden.books import is_book
from gatewarden.errors import TooLong
from gatewarden.plans import plan_of
from gatewarden.ranges import set_of
from gatewarden.views import FIELDS


def cases_of(book):
    """The pairs of conditions and a decision of all ways through the plan of a book."""
    nodes, root = plan_of(book)
    return _cases_from(nodes, root)


def _cases_from(nodes, target):
    """The cases of all ways from a target on."""
    if type(target) == tuple:
        return [((), target)]
    number, branches = nodes[target]
    steps = {}
    start = 0
    for high, lead in branches:
        steps.setdefault(lead, []).append((start, high))
        start = high + 1
    found = []
    for lead in steps:
        condition = (FIELDS[number], set_of(steps[lead]))
        found.extend([((condition, *more), decision) for more, decision in _cases_from(nodes, lead)])
    return found


def flattened(book):
    """The book of one chain whose rules are the cases of a book; TooLong if they are too many or too long."""
    cases = cases_of(book)
    _, last = cases[-1]
    found = (("main", tuple(case for case in cases if case[1] != last), last),)
    if not is_book(found):
        raise TooLong("the cases make no book")
    return found
