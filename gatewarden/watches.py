"""Watches: questions about all histories (point 9.1)."""

from gatewarden.books import MOST_CONDITIONS, is_book, is_condition, is_decision
from gatewarden.rows import is_row, run_history
from gatewarden.shapes import first_text, is_number, is_tuple
from gatewarden.talks import sender_of, talk_at
from gatewarden.views import FIELDS, SIGHT_ITEMS
from gatewarden.walking import walk
from gatewarden.watching import Watcher


def is_watch(value):
    """True if any value is a watch."""
    word = first_text(value)
    if word == "part":
        return len(value) == 3 and is_row(value[1]) and is_row(value[2])
    if word == "get":
        return len(value) == 4 and is_row(value[1]) and _are_conditions(value[2]) and is_decision(value[3])
    if word == "break":
        return len(value) == 3 and is_book(value[1]) and is_book(value[2])
    return word == "meet" and len(value) == 3 and is_book(value[1]) and _is_rule_place(value[1], value[2])


def _are_conditions(value):
    """True if any value is a tuple of conditions on what a sight has."""
    if type(value) != tuple or len(value) > MOST_CONDITIONS:
        return False
    return all(is_condition(condition) and condition[0] in FIELDS[:SIGHT_ITEMS] for condition in value)


def _is_rule_place(book, value):
    """True if any value is the place of a rule of a book."""
    if not is_tuple(value, 2) or not is_number(value[0], 0, len(book) - 1):
        return False
    return is_number(value[1], 0, len(book[value[0]][1]) - 1)


def comes_true(watch, history):
    """The number of the first sight of a history at which a watch comes true, or None."""
    watcher = Watcher(watch)
    news, _ = run_history(history, watcher.gate_count, lambda states, sight: _asked(watcher, states, sight))
    return news.index(True) if True in news else None


def _asked(watcher, states, sight):
    """Whether a watch comes true at a sight, and the joint state of its talk after it."""
    kind, flags = sight[1], sight[6]
    sender = sender_of(sight)

    def talk_of(state):
        return talk_at(kind, state, sender, flags)

    def walk_at(i, code, side):
        return walk(watcher.all_books[i], (*sight, code, side))

    _, after, is_true = watcher.run(states, sight[0], talk_of, walk_at)
    return is_true, after
