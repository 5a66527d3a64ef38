"""Plans of the views that sights have (points 3.1 and 3.6)."""

from gatewarden.books import ACCEPT, DROP
from gatewarden.letters import moments_of
from gatewarden.packets import GREATEST_LENGTH, NOTE
from gatewarden.plans import joined_plans, plan_of
from gatewarden.ranges import set_of
from gatewarden.talks import greatest_state
from gatewarden.views import TOPS, has_ports, least_length

# The numbers of the two fields with addresses.
SOURCE = 2
DESTINATION = 4

# Ranges of kinds whose sights have the same form: notes, streams and askings stand alone.
KINDS = ((0, 0), (1, 1), (2, 5), (6, 6), (7, 16), (17, 17), (18, 255))


def views_plan(has_talks):
    """The plan that accepts the views of all sights, for the state 0 alone or, with talks, for all states.

    It also accepts what would be such a view, were its addresses not equal.
    """
    rules = []
    for kinds in KINDS:
        rules.extend(_view_rules(kinds, greatest_state(kinds[0]) if has_talks else 0))
    return plan_of((("views", tuple(rules), DROP),))


def _view_rules(kinds, top):
    """Rules that accept the views of sights with some kinds, for states with numbers up to the top."""
    kind = kinds[0]
    fixed = [("kind", (kinds,)), ("length", ((least_length(kind), GREATEST_LENGTH),))]
    if not has_ports(kind):
        fixed.extend([("sport", ((0, 0),)), ("dport", ((0, 0),))])
    if kind != NOTE:
        fixed.append(("code", ((0, 0),)))
    codes = {}
    for _, flags, code, side in moments_of(kind, top):
        codes.setdefault((flags, side), []).append((code, code))
    rules = []
    for flags, side in codes:
        talk = [("flags", ((flags, flags),)), ("talk", set_of(codes[(flags, side)])), ("side", ((side, side),))]
        rules.append(((*fixed, *talk), ACCEPT))
    return rules


def shared_plan(first, second):
    """The plan that accepts what two plans accept."""
    return joined_plans(first, second, {(ACCEPT, ACCEPT): ACCEPT})


def accepted_view(plan):
    """A tuple with different addresses that a plan accepts, or None."""
    waiting = [(plan[1], tuple((0, top) for top in TOPS))]
    while waiting:
        target, ranges = waiting.pop()
        view = _with_unlike_addresses(ranges)
        if view is None:
            continue
        if target == ACCEPT:
            return view
        if type(target) == int:
            field, branches = plan[0][target]
            start = 0
            for high, lead in branches:
                waiting.append((lead, (*ranges[:field], (start, high), *ranges[field + 1:])))
                start = high + 1
    return None


def _with_unlike_addresses(ranges):
    """A tuple of numbers in some ranges whose addresses are different, or None."""
    lows = [low for low, _ in ranges]
    if lows[SOURCE] == lows[DESTINATION]:
        field = SOURCE if ranges[SOURCE][1] > lows[SOURCE] else DESTINATION
        if ranges[field][1] == lows[field]:
            return None
        lows[field] += 1
    return tuple(lows)
