"""Plans: the decisions of books as canonical diagrams (points 6.1 to 6.5)."""

from gatewarden.books import ACCEPT, DROP, MARK, is_decision
from gatewarden.ranges import contains, ends_of
from gatewarden.shapes import is_number, is_tuple
from gatewarden.views import FIELDS, TOPS
from gatewarden.walking import walked


class Nodes:
    """The nodes of a canonical plan while it grows from its decisions upwards."""

    def __init__(self):
        self.numbers = {}

    def target_of(self, field, branches):
        """The target that leads as a node with some branches would, as canonical as they are."""
        merged = []
        for high, target in branches:
            if merged and merged[-1][1] == target:
                merged[-1] = (high, target)
            else:
                merged.append((high, target))
        if len(merged) == 1:
            return merged[0][1]
        return self.numbers.setdefault((field, tuple(merged)), len(self.numbers))

    def plan(self, root):
        """The canonical plan with a root, of the nodes that it leads to."""
        nodes = list(self.numbers)
        order = {}
        waiting = [root]
        while waiting:
            target = waiting.pop()
            if type(target) == int and target not in order:
                order[target] = len(order)
                waiting.extend([lead for _, lead in nodes[target][1][::-1]])
        found = []
        for number in order:
            field, branches = nodes[number]
            found.append((field, tuple((high, order.get(target, target)) for high, target in branches)))
        return (tuple(found), order.get(root, root))


def plan_of(book):
    """The canonical right plan of a book."""
    chains, sets = _with_numbered_sets(book)
    nodes = Nodes()
    known = {}

    def grown(rest):
        if rest not in known:
            field = _first_field(rest)
            if field is None:
                known[rest] = _decided(rest, sets)
            else:
                highs = _highs(rest, sets, field)
                known[rest] = nodes.target_of(
                    field, [(high, grown(_restricted(rest, sets, field, high))) for high in highs])
        return known[rest]

    return nodes.plan(grown(chains))


def _with_numbered_sets(book):
    """The book with numbers in the place of fields and sets, and the list of the sets.

    What is noted does not count for the decision, so these rules are left out. The number
    of the mark is greater than those of the fields.
    """
    fields = list(FIELDS) + [MARK]
    numbers = {}
    chains = []
    for word, rules, default in book:
        found = []
        for conditions, action in rules:
            if action[0] != "count":
                told = [(fields.index(field), numbers.setdefault(a, len(numbers))) for field, a in conditions]
                found.append((tuple(told), action))
        chains.append((word, tuple(found), default))
    return tuple(chains), list(numbers)


def _asked_fields(chains):
    """The pairs of the numbers of field and set of all conditions but those on the mark."""
    pairs = []
    for chain in chains:
        for conditions, _ in chain[1]:
            pairs.extend([pair for pair in conditions if pair[0] < len(FIELDS)])
    return pairs


def _first_field(chains):
    """The least number of a field that is still asked, or None."""
    return min([field for field, _ in _asked_fields(chains)], default=None)


def _highs(chains, sets, field):
    """The highs of the ranges of a field within which no condition changes."""
    asked = [sets[number] for at, number in _asked_fields(chains) if at == field]
    return [end - 1 for end in ends_of(asked, TOPS[field])] + [TOPS[field]]


def _restricted(chains, sets, field, value):
    """What is left of the chains if a field has a value; chains to which no rule jumps are left out."""
    found = []
    wanted = {chains[0][0]: True}
    for word, rules, default in chains:
        if word in wanted:
            left, end = _restricted_rules(rules, default, sets, field, value)
            found.append((word, left, end))
            for _, action in left:
                if action[0] == "jump":
                    wanted[action[1]] = True
    return tuple(found)


def _restricted_rules(rules, default, sets, field, value):
    """The rules and the default that are left of a chain if a field has a value."""
    found = []
    for conditions, action in rules:
        if all(at != field or contains(sets[number], value) for at, number in conditions):
            left = tuple(pair for pair in conditions if pair[0] != field)
            if not left and action[0] not in ("jump", "mark"):
                return tuple(found), action
            found.append((left, action))
    return tuple(found), default


def _decided(chains, sets):
    """The decision of chains that ask the mark alone."""

    def asked(condition, mark):
        return contains(sets[condition[1]], mark)

    result, _ = walked(chains, asked)
    return result[0]


def is_plan(value):
    """True if any value is a plan that leads to greater field numbers alone."""
    if not is_tuple(value, 2):
        return False
    nodes, root = value
    if type(nodes) != tuple or not all(_is_node(node) for node in nodes):
        return False
    fields = [field for field, _ in nodes]
    for field, branches in nodes:
        if not all(_is_target(target, fields, field + 1) for _, target in branches):
            return False
    return _is_target(root, fields, 0)


def _is_node(value):
    """True if a value is a node, whatever the targets of its branches are."""
    if not is_tuple(value, 2) or not is_number(value[0], 0, len(FIELDS) - 1) or type(value[1]) != tuple:
        return False
    field, branches = value
    least = 0
    for branch in branches:
        if not is_tuple(branch, 2) or not is_number(branch[0], least, TOPS[field]):
            return False
        least = branch[0] + 1
    return least == TOPS[field] + 1


def _is_target(value, fields, least):
    """True if a value is a decision, or the number of a node whose field number is at least the least one."""
    if is_number(value, 0, len(fields) - 1):
        return fields[value] >= least
    return is_decision(value)


def led(plan, view):
    """The decision to which a plan leads a tuple."""
    nodes, target = plan
    while type(target) == int:
        field, branches = nodes[target]
        k = 0
        while branches[k][0] < view[field]:
            k += 1
        target = branches[k][1]
    return target


def decisions_of(plan):
    """The decisions of a plan, as the keys of a dict."""
    nodes, root = plan
    found = {root: True}
    for _, branches in nodes:
        for _, target in branches:
            found[target] = True
    return [target for target in found if type(target) == tuple]


def tidied(plan):
    """The canonical plan that leads each tuple as a plan does."""
    return joined_plans(plan, ((), ACCEPT), {(decision, ACCEPT): decision for decision in decisions_of(plan)})


def _field_of(plan, target):
    """The field number of a target, greater than all for a decision."""
    return plan[0][target][0] if type(target) == int else len(FIELDS)


def _steps(first, one, second, other):
    """The field that two targets of two plans ask first, and for each range its high and where the two lead.

    The one that does not ask this field leads to itself.
    """
    field = min(_field_of(first, one), _field_of(second, other))
    left, right = _branches(first, one, field), _branches(second, other, field)
    found = []
    i, k = 0, 0
    while i < len(left):
        high = min(left[i][0], right[k][0])
        found.append((high, left[i][1], right[k][1]))
        if left[i][0] == high:
            i += 1
        if right[k][0] == high:
            k += 1
    return field, found


def _branches(plan, target, field):
    if _field_of(plan, target) == field:
        return plan[0][target][1]
    return ((TOPS[field], target),)


def joined_plans(first, second, pairs):
    """The canonical plan that leads to what a dict tells for the two decisions of two plans."""
    nodes = Nodes()
    known = {}

    def joined(one, other):
        if type(one) == tuple and type(other) == tuple:
            return pairs.get((one, other), DROP)
        if (one, other) not in known:
            field, steps = _steps(first, one, second, other)
            branches = [(high, joined(left, right)) for high, left, right in steps]
            known[(one, other)] = nodes.target_of(field, branches)
        return known[(one, other)]

    return nodes.plan(joined(first[1], second[1]))


def narrowed(plan, field, low, high):
    """The canonical plan that leads as a plan does between two values of a field, and to drop beside them."""
    top = TOPS[field]
    branches = [(high, ACCEPT)]
    if low > 0:
        branches = [(low - 1, DROP), *branches]
    if high < top:
        branches = [*branches, (top, DROP)]
    window = (((field, tuple(branches)),), 0)
    return joined_plans(plan, window, {(decision, ACCEPT): decision for decision in decisions_of(plan)})


def _room(start, end):
    """The number of the tuples of values of the fields from one number to before another one."""
    size = 1
    for k in range(start, end):
        size *= TOPS[k] + 1
    return size


def counted(plan, decision):
    """The number of the tuples that a plan leads to a decision."""
    known = {}

    def below(number):
        if number not in known:
            field, branches = plan[0][number]
            total, start = 0, 0
            for high, target in branches:
                total += (high + 1 - start) * led_to(target, field + 1)
                start = high + 1
            known[number] = total
        return known[number]

    def led_to(target, field):
        if type(target) == int:
            return _room(field, _field_of(plan, target)) * below(target)
        return _room(field, len(FIELDS)) if target == decision else 0

    return led_to(plan[1], 0)


def differing(first, second):
    """The first tuple that two plans lead to different decisions, or None."""
    alike = {}

    def parting(one, other):
        if type(one) == tuple and type(other) == tuple:
            return None if one == other else []
        if (one, other) in alike:
            return None
        field, steps = _steps(first, one, second, other)
        start = 0
        for high, left, right in steps:
            rest = parting(left, right)
            if rest is not None:
                return [(field, start), *rest]
            start = high + 1
        alike[(one, other)] = True
        return None

    values = parting(first[1], second[1])
    if values is None:
        return None
    found = [0] * len(FIELDS)
    for field, value in values:
        found[field] = value
    return tuple(found)
