"""What a watch asks of one packet, whoever walks the books for it (points 9.1 and 9.3)."""

from gatewarden.books import ACCEPT, DROP
from gatewarden.cuts import is_walk
from gatewarden.rows import gate_order, row_run
from gatewarden.talks import WRONG

# In the place of the place of a rule, this asks for all places; a watch with it never comes true.
EVERY_PLACE = ()


def _rows_of(watch):
    """The rows of a watch whose gates keep states, where a book counts as a row of one."""
    if watch[0] == "part":
        return [watch[1], watch[2]]
    if watch[0] == "get":
        return [watch[1]]
    return [(watch[1],)]


def _asked_behind(watch):
    """The books that a watch asks behind its rows: one for `get` and `break`.

    The conditions of `get` make a book that accepts what has all of them.
    """
    if watch[0] == "get":
        return [(("main", ((watch[2], ACCEPT),), DROP),)]
    if watch[0] == "break":
        return [watch[2]]
    return []


class Watcher:
    """A watch that is asked packet by packet.

    `all_books` are those of the gates, in the order of the joint states, and behind them the
    one that is asked behind the rows; `gate_count` is the number of the gates.
    """

    def __init__(self, watch):
        self.watch = watch
        rows = _rows_of(watch)
        self.all_books = [book for row in rows for book in row]
        self.gate_count = len(self.all_books)
        self.all_books.extend(_asked_behind(watch))
        self.orders = [[], []]
        for interface in (0, 1):
            start = 0
            for row in rows:
                self.orders[interface].append(gate_order(start, len(row), interface))
                start += len(row)

    def run(self, states, interface, talk_of, walk_at):
        """What is not settled, or None; the joint state after a packet; whether the watch comes true.

        `talk_of` and `walk_at` are as `row_run` takes them.
        """
        after = states
        results = []
        for order in self.orders[interface]:
            result, after = row_run(after, order, talk_of, walk_at)
            if not is_walk(result):
                return result, after, False
            results.append(result)
        if self.watch[0] == "part":
            return None, after, results[0][0] != results[1][0]
        if self.watch[0] == "meet":
            return None, after, self.watch[2] in results[0][3]
        return self._asked_more(states, after, results[0][0], talk_of, walk_at)

    def asked_part(self, result):
        """A walk with no more of it than this watch asks: the decision, and for `meet` the places that count."""
        met = ()
        if self.watch[0] == "meet":
            met = tuple(place for place in result[3] if self.watch[2] in (place, EVERY_PLACE))
        return (result[0], 0, (), met)

    def _asked_more(self, states, after, decision, talk_of, walk_at):
        """What `run` tells for `get` and `break`, from the decision of the row on."""
        by_conditions = self.watch[0] == "get"
        code, side, _ = talk_of(states[0])
        if by_conditions:
            is_asked = decision == self.watch[3]
        else:
            is_asked = states[0] != 0 and code != WRONG and decision == ACCEPT
        if not is_asked:
            return None, after, False
        result = walk_at(self.gate_count, code, side)
        if not is_walk(result):
            return result, after, False
        return None, after, (result[0] == ACCEPT) == by_conditions
