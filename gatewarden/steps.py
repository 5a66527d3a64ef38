"""Changes in steps that stay between two books (points 11.2 and 11.3)."""

from gatewarden.books import ACCEPT
from gatewarden.doubles import book_at, switches, thrown_sets
from gatewarden.plans import decisions_of, joined_plans, plan_of
from gatewarden.shapes import first_text, is_ascending, is_number, is_tuple
from gatewarden.sightplans import accepted_view, shared_plan, views_plan
from gatewarden.talks import greatest_state, view_of
from gatewarden.views import SIGHT_ITEMS, is_sight
from gatewarden.walking import decide

# In a plan, in the place of a decision that is the same in another one.
SAME = ("same",)


def between(a, b, c):
    """None if the third book stays between the first two, and otherwise a sight and a state for which it does not."""
    return _parting(plan_of(a), plan_of(b), plan_of(c), views_plan(True))


def _parting(first, second, third, views):
    """A sight and a state, of the views of a plan, that the third plan leads elsewhere than the first two; or None."""
    pairs = {(x, y): SAME if x == y else x for x in decisions_of(third) for y in decisions_of(first)}
    unlike = joined_plans(third, first, pairs)
    pairs = {
        (x, y): ACCEPT for x in decisions_of(unlike) for y in decisions_of(second) if x not in (SAME, y)
    }
    view = accepted_view(shared_plan(joined_plans(unlike, second, pairs), views))
    if view is None:
        return None
    sight = view[:SIGHT_ITEMS]
    top = greatest_state(sight[1])
    return sight, [state for state in range(-top, top + 1) if view_of(sight, state) == view][0]


class Steps:
    """A double book, of which is known for each tuple of thrown switches whether its book stays between."""

    def __init__(self, double):
        self.double = double
        self.size = switches(double)
        self.whole = tuple(range(self.size))
        self.old = self.plan_at(())
        self.new = self.plan_at(self.whole)
        self.views = views_plan(True)
        self.known = {}

    def plan_at(self, thrown):
        """The plan of the book with some switches thrown."""
        return plan_of(book_at(self.double, thrown))

    def parting(self, thrown):
        """None if the book stays between the old and the new one, and otherwise a sight and a state."""
        if thrown not in self.known:
            self.known[thrown] = _parting(self.old, self.new, self.plan_at(thrown), self.views)
        return self.known[thrown]


def _with_one(thrown, number):
    """The tuple of thrown switches with one more."""
    return tuple(sorted([*thrown, number]))


def step_paper(double):
    """A right step paper for a double book."""
    steps = Steps(double)
    orders = {(): ()}
    waiting = [()]
    stops = []
    while waiting and steps.whole not in orders:
        thrown = waiting.pop()
        for number in steps.whole:
            if number in thrown:
                continue
            more = _with_one(thrown, number)
            parting = steps.parting(more)
            if parting is not None:
                stops.append((thrown, number, parting))
            elif more not in orders:
                orders[more] = (*orders[thrown], number)
                waiting.append(more)
    if steps.whole in orders:
        return ("order", orders[steps.whole])
    return ("none", tuple(sorted(orders)), tuple(sorted(stops)))


def smooth_orders(double):
    """The number of the smooth orders of a double book."""
    steps = Steps(double)
    ways = {}
    for thrown in thrown_sets(steps.size):
        before = [tuple(other for other in thrown if other != number) for number in thrown]
        many = sum(ways[part] for part in before) if thrown else 1
        ways[thrown] = many if many and steps.parting(thrown) is None else 0
    return ways[steps.whole]


def check_steps(double, value):
    """True if any value is a right step paper for a double book."""
    word = first_text(value)
    if word == "order":
        return len(value) == 2 and _is_smooth(double, value[1])
    if word != "none" or len(value) != 3:
        return False
    _, sets, stops = value
    count = switches(double)
    if not _are_sets(count, sets) or not _are_stops(double, count, stops):
        return False
    inside = {thrown: True for thrown in sets}
    stopped = {(thrown, number): True for thrown, number, _ in stops}
    return all(
        number in thrown or _with_one(thrown, number) in inside or (thrown, number) in stopped
        for thrown in sets for number in range(count)
    )


def _is_smooth(double, value):
    """True if any value is a smooth order."""
    steps = Steps(double)
    if type(value) != tuple or not all(is_number(number, 0, steps.size - 1) for number in value):
        return False
    if tuple(sorted(value)) != steps.whole:
        return False
    return all(steps.parting(tuple(sorted(value[:k]))) is None for k in range(len(value)))


def _is_thrown(count, value):
    """True if any value is an ascending tuple of numbers of so many switches."""
    return type(value) == tuple and all(is_number(number, 0, count - 1) for number in value) and is_ascending(value)


def _are_sets(count, value):
    """True if any value is an ascending tuple of tuples of thrown switches, with that of none and not that of all."""
    if type(value) != tuple or not all(_is_thrown(count, thrown) for thrown in value):
        return False
    return is_ascending(value) and () in value and tuple(range(count)) not in value


def _are_stops(double, count, value):
    """True if any value is an ascending tuple of stops that are right."""
    if type(value) != tuple or not all(_is_stop(count, stop) for stop in value) or not is_ascending(value):
        return False
    old, new = book_at(double, ()), book_at(double, tuple(range(count)))
    for thrown, number, (sight, state) in value:
        view = view_of(sight, state)
        decision = decide(book_at(double, _with_one(thrown, number)), view)
        if decision in (decide(old, view), decide(new, view)):
            return False
    return True


def _is_stop(count, value):
    """True if any value has the form of a stop."""
    if not is_tuple(value, 3) or not _is_thrown(count, value[0]) or not is_number(value[1], 0, count - 1):
        return False
    if value[1] in value[0] or not is_tuple(value[2], 2) or not is_sight(value[2][0]):
        return False
    top = greatest_state(value[2][0][1])
    return is_number(value[2][1], -top, top)
