"""Programs from books (point 14.1)."""

from gatewarden.errors import TooLong
from gatewarden.fieldbytes import FIELD_BYTES, FIELD_KINDS
from gatewarden.machine import MOST_INSTRUCTIONS
from gatewarden.plans import decisions_of, plan_of
from gatewarden.views import FIELDS


def compiled(book):
    """A program that means a book; TooLong if the book's plan is too great for one."""
    plan = plan_of(book)
    nodes, root = plan
    if 20 * len(nodes) + 4 * sum(len(branches) for _, branches in nodes) + 8 > MOST_INSTRUCTIONS:
        raise TooLong("the plan has too many nodes and branches")
    # Targets of a node have greater field numbers, so in this order all ways lead onwards.
    order = [k for _, k in sorted([(nodes[k][0], k) for k in range(len(nodes))])]
    numbers = {}
    count = 0
    for k in order:
        numbers[k] = count
        count += len(_node_code(nodes[k], 0, {}))
    decisions = decisions_of(plan)
    for k in range(len(decisions)):
        numbers[decisions[k]] = count + k
    found = []
    for k in order:
        found.extend(_node_code(nodes[k], len(found), numbers))
    found.extend([("answer", decision) for decision in decisions])
    return tuple(found)


def _node_code(node, start, numbers):
    """The instructions of a node, from the number `start` on; `numbers` tells where its targets begin."""
    number, branches = node
    field = FIELDS[number]
    leads = [numbers.get(target, 0) for _, target in branches]
    found = _kind_tests(FIELD_KINDS.get(field, ()), start, leads[0])
    found.append(_load_of(field))
    for k in range(len(branches) - 1):
        behind = start + len(found) + 1 if k < len(branches) - 2 else leads[-1]
        found.append(("less", 0, branches[k][0] + 1, leads[k], behind))
    return found


def _kind_tests(kinds, start, otherwise):
    """Instructions that go on behind them for some ascending kinds, if there are any, and elsewhere for all others.

    Packets of other kinds have 0 in the field, and the first branch of a node is that of 0.
    """
    if not kinds:
        return []
    found = [("byte", 0, "outer", 1)]
    behind = start + 1 + 2 * len(kinds)
    for kind in kinds:
        found.append(("less", 0, kind, otherwise, start + len(found) + 1))
        following = otherwise if kind == kinds[-1] else start + len(found) + 1
        found.append(("less", 0, kind + 1, behind, following))
    return found


def _load_of(field):
    """The instruction that loads a field of a packet that has it."""
    if field not in FIELD_BYTES:
        return ("special", 0, field)
    base, offset, size = FIELD_BYTES[field]
    return ("word" if size == 2 else "byte", 0, base, offset)
