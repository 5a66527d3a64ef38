"""Rows of gates and their histories (points 7.1 to 7.3)."""

from gatewarden.books import ACCEPT, is_book
from gatewarden.talks import key_of, sender_of, talk_at
from gatewarden.walking import walk

MOST_GATES = 3


def is_row(value):
    """True if any value is a row."""
    return type(value) == tuple and 1 <= len(value) <= MOST_GATES and all(is_book(book) for book in value)


def gate_order(start, count, interface):
    """The numbers of the gates of a row, from `start` on, as a packet from an interface comes to them."""
    numbers = list(range(start, start + count))
    if interface == 1:
        numbers.reverse()
    return numbers


def row_run(states, order, talk_of, walk_at):
    """The walk at the last gate that a packet comes to, and the states of all gates after it.

    `talk_of(state)` tells what `talk_at` tells for the packet, and `walk_at(i, code, side)`
    the walk at a gate, or what is not settled in it, which ends the run as well.
    """
    after = list(states)
    result = None
    for i in order:
        code, side, then = talk_of(states[i])
        result = walk_at(i, code, side)
        if result[0] != ACCEPT:
            break
        after[i] = then
    return result, tuple(after)


def seen_at(row, states, sight):
    """The walk at the last gate of a row that a sight comes to, and the states of its talk after it."""
    interface, kind, flags = sight[0], sight[1], sight[6]
    sender = sender_of(sight)

    def talk_of(state):
        return talk_at(kind, state, sender, flags)

    def walk_at(i, code, side):
        return walk(row[i], (*sight, code, side))

    return row_run(states, gate_order(0, len(row), interface), talk_of, walk_at)


def decisions_at(row, states, sight):
    """The row's decision for a sight, and the states of its talk after it."""
    result, after = seen_at(row, states, sight)
    return result[0], after


def run_history(history, gates, step):
    """What is told of each sight of a history, and a dict from keys to the states of so many gates at the end.

    `step(states, sight)` tells a pair of anything and of the states after the sight.
    """
    news = []
    talks = {}
    for sight in history:
        key = key_of(sight)
        told, after = step(talks.get(key, (0,) * gates), sight)
        news.append(told)
        if key is not None:
            talks[key] = after
    return news, talks


def run_row(row, history):
    """The row's decisions for the sights of a history."""
    decisions, _ = run_history(history, len(row), lambda states, sight: decisions_at(row, states, sight))
    return decisions


def states_after(row, history):
    """The pairs of a key and its states at the gates, of the keys for which not all of them are 0 at the end."""
    _, talks = run_history(history, len(row), lambda states, sight: decisions_at(row, states, sight))
    return [(key, talks[key]) for key in sorted(talks) if any(talks[key])]
