"""Which rules of a book are needed (points 10.2 and 10.3)."""

from itertools import combinations

from gatewarden.books import rule_places, without_rule
from gatewarden.questions import alike
from gatewarden.rows import run_row
from gatewarden.searching import met_places, searched


def hidden_rules(book):
    """The places of the rules that are met in no history."""
    met = met_places(book)
    return [place for place in rule_places(book) if place not in met]


def needless_rules(book):
    """The places of the rules without which the book does the same in all histories."""
    met = met_places(book)
    return [
        place for place in rule_places(book)
        if place not in met or alike((book,), (without_rule(book, place),))
    ]


def least_book(book):
    """A book with the fewest rules that is left of a book and does the same in all histories."""
    places = rule_places(book)
    partings = []
    for count in range(len(places)):
        for left in combinations(places, count):
            found = _with_places(book, left)
            if not _parts(book, found, partings):
                return found
    return book


def _with_places(book, places):
    """The book with the rules at some places alone."""
    chains = []
    for i in range(len(book)):
        word, rules, default = book[i]
        chains.append((word, tuple(rules[k] for k in range(len(rules)) if (i, k) in places), default))
    return tuple(chains)


def _parts(book, other, partings):
    """True if two books part in some history; new ones in which they do are added to the list of those known."""
    for history in partings:
        if run_row((book,), history) != run_row((other,), history):
            return True
    history, _ = searched(("part", (book,), (other,)), True)
    if history is None:
        return False
    partings.append(history)
    return True
