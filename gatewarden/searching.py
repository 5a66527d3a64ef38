"""The search through all histories: for the shortest one at which a watch comes true, or a closing tree."""

from gatewarden.boxes import halves
from gatewarden.lanes import LANE_FIELDS, LaneRuns, sight_in, has_talk_kind, whole_ranges
from gatewarden.letters import letters_of
from gatewarden.packets import ASKING, STREAM
from gatewarden.watching import EVERY_PLACE

EMPTY = ("empty",)
LOOSE = ("loose",)


class Search:
    """A search; `is_hasty` tells it to end with any history.

    Its `best` is the shortest history that it has met, or None. The tree that it grows is
    a closing tree only as long as there is none.
    """

    def __init__(self, watch, is_hasty):
        self.runs = LaneRuns(watch)
        self.is_hasty = is_hasty
        self.best = None
        self.known = {}

    def grown(self, lane):
        """A closing tree for a lane box, if no history has been met."""
        sight = sight_in(lane)
        if sight is None or self._is_over():
            return EMPTY
        cut = _kind_cut(lane)
        if cut is None:
            result = self._outcome(lane)
            if result[0] == "true":
                self._meet(_history(sight, result[1]))
                return EMPTY
            if result[0] != "open":
                return result
            cut = result[1]
        field, at = cut
        below, above = halves(lane, LANE_FIELDS.index(field), at)
        return ("cut", field, at, self.grown(below), self.grown(above))

    def _is_over(self):
        return self.best is not None and (self.is_hasty or len(self.best) == 1)

    def _meet(self, history):
        if self.best is None or len(history) < len(self.best):
            self.best = history

    def _outcome(self, lane):
        """A leaf for a lane box; or `open` and a cut; or `true` and the steps to where the watch comes true."""
        if not has_talk_kind(lane):
            return self._loose_outcome(lane)
        kind = lane[0][0]
        lengths, lanes, forms = self.runs.talk_forms(lane)
        key = (kind, tuple(forms))
        if key not in self.known:
            self.known[key] = self._explored(lanes, forms, lengths)
        return self.known[key]

    def _loose_outcome(self, lane):
        forms = self.runs.forms_of(lane)
        zeros = (0,) * self.runs.gate_count
        kind = lane[0][0]
        for letter in letters_of(kind):
            opened, _, is_true = self.runs.run(kind, forms, zeros, letter)
            if opened is not None:
                return ("open", opened)
            if is_true:
                return ("true", [(letter, None)])
        return LOOSE

    def _explored(self, lanes, forms, lengths):
        """The outcome of a lane box of one kind with talks, with all joint states that its packets lead to."""
        kind = lanes[0][0][0]
        zeros = (0,) * self.runs.gate_count
        ways = {zeros: []}
        waiting = [zeros]
        letters = letters_of(kind)
        done = 0
        while done < len(waiting):
            states = waiting[done]
            done += 1
            for letter in letters:
                for k in range(len(lanes)):
                    opened, after, is_true = self.runs.run(kind, forms[k], states, letter)
                    if opened is not None:
                        return ("open", opened)
                    if not is_true and after in ways:
                        continue
                    way = [*ways[states], (letter, lanes[k][-1][0])]
                    if is_true:
                        return ("true", way)
                    ways[after] = way
                    waiting.append(after)
        return ("talks", tuple(sorted(ways)), lengths)


def _kind_cut(lane):
    """Where the kinds of a lane box are to be cut, so that those with talks stand alone; or None."""
    low, high = lane[0]
    if not has_talk_kind(lane) or low == high:
        return None
    # A range of several kinds with such a one among them begins below its number, or ends above it.
    return [("kind", at) for kind in (STREAM, ASKING) for at in (kind, kind + 1) if low < at <= high][0]


def _history(sight, steps):
    """The history of the steps of a letter and a length, between the ends of a sight from the sender 0."""
    _, kind, first, first_port, second, second_port, _, code, least = sight
    found = []
    for (sender, interface, flags), length in steps:
        ends = (first, first_port, second, second_port)
        if sender == 1:
            ends = (second, second_port, first, first_port)
        found.append((interface, kind, *ends, flags, code, least if length is None else length))
    return tuple(found)


def searched(watch, is_hasty):
    """The pair of a shortest history at which a watch comes true, any one in haste, and a closing tree.

    The first one is None if there is none, and only then the second one is of worth.
    """
    search = Search(watch, is_hasty)
    tree = search.grown(whole_ranges())
    return search.best, tree


def met_places(book):
    """A dict of True for the places of all rules of a book that are met in some history."""
    # This watch never comes true, so the search goes through all that packets do.
    search = Search(("meet", book, EVERY_PLACE), False)
    search.grown(whole_ranges())
    return search.runs.met_places()
