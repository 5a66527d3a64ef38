"""How often rules are met in a history, and histories woven into one (points 10.4 and 10.5)."""

from gatewarden.books import rule_places
from gatewarden.errors import BadOrder
from gatewarden.rows import run_history, seen_at


def tally(book, history):
    """The pairs of each rule's place, and of each noted number, and how often a history meets or notes it."""
    walks, _ = run_history(history, 1, lambda states, sight: seen_at((book,), states, sight))
    met = {place: 0 for place in rule_places(book)}
    counts = {}
    for _, _, noted, places in walks:
        for place in places:
            met[place] += 1
        for number in noted:
            counts[number] = counts.get(number, 0) + 1
    return [(place, met[place]) for place in sorted(met)], [(number, counts[number]) for number in sorted(counts)]


def woven(histories, order):
    """The history that takes for each number the next sight of this history; BadOrder if they do not come out even."""
    taken = [0] * len(histories)
    found = []
    for number in order:
        if not 0 <= number < len(histories) or taken[number] == len(histories[number]):
            raise BadOrder("a history has no sight left")
        found.append(histories[number][taken[number]])
        taken[number] += 1
    if len(found) < sum(len(history) for history in histories):
        raise BadOrder("sights are left over")
    return tuple(found)
