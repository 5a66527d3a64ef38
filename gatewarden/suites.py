"""Suites: histories that together meet all rules of a book that can be met (point 20.3)."""

from gatewarden.books import rule_places
from gatewarden.closing import paper_of
from gatewarden.searching import met_places
from gatewarden.tallies import tally


def covered(book, histories):
    """The places of the rules that are met in at least one of some histories, ascending."""
    found = {}
    for history in histories:
        met, _ = tally(book, history)
        for place, often in met:
            if often > 0:
                found[place] = True
    return sorted(found)


def _met_in_some(book):
    """The places of the rules that are not hidden, ascending."""
    met = met_places(book)
    return [place for place in rule_places(book) if place in met]


def _spare(parts, wanted):
    """The number of the first of some lists without which the others have all that is wanted, or None."""
    for k in range(len(parts)):
        others = {place: True for part in [*parts[:k], *parts[k + 1:]] for place in part}
        if all(place in others for place in wanted):
            return k
    return None


def suite_of(book):
    """A suite of a book."""
    wanted = _met_in_some(book)
    histories, parts = [], []
    for place in wanted:
        if not any(place in part for part in parts):
            _, history = paper_of(("meet", book, place))
            histories.append(history)
            parts.append(covered(book, [history]))
    spare = _spare(parts, wanted)
    while spare is not None:
        del histories[spare], parts[spare]
        spare = _spare(parts, wanted)
    return histories


def is_suite(book, histories):
    """True if some histories are a suite of a book."""
    wanted = _met_in_some(book)
    if covered(book, histories) != wanted:
        return False
    return _spare([covered(book, [history]) for history in histories], wanted) is None
