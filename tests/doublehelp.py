"""Double books for the tests, and what is between two books, found by trying all sample sights and states."""

import itertools

from gatewarden.talks import view_of
from gatewarden.views import FIELDS, TOPS
from tests.bookhelp import DECISIONS, plain_walk, random_set
from tests.historyhelp import LEAST, late_book, living_book, starts_in

STATES = {6: range(-4, 5), 17: range(-2, 3)}


def plain_book_at(double, thrown):
    """The book at some thrown switches, with the switches counted beforehand."""
    numbers = {}
    for i, (_, rules, defaults) in enumerate(double):
        for k, (_, _, when) in enumerate(rules):
            if when != "both":
                numbers[(i, k)] = len(numbers)
        if defaults[0] != defaults[1]:
            numbers[(i, "default")] = len(numbers)
    book = []
    for i, (word, rules, defaults) in enumerate(double):
        left = []
        for k, (conditions, action, when) in enumerate(rules):
            is_thrown = numbers.get((i, k)) in thrown
            if when == "both" or (when == "old" and not is_thrown) or (when == "new" and is_thrown):
                left.append((conditions, action))
        book.append((word, tuple(left), defaults[numbers.get((i, "default")) in thrown]))
    return tuple(book), len(numbers)


def sample_views(books):
    """Pairs of a sight and a state, so that each way to tell views apart is there."""
    addresses = starts_in(books, ("source", "destination"), 65535)
    pairs = list(itertools.permutations(addresses, 2))
    for low in addresses:
        if low < 65535 and low + 1 not in addresses:
            pairs += [(low, low + 1), (low + 1, low)]
    ports = [starts_in(books, (field,), 65535) for field in ("sport", "dport")]
    for kind in starts_in(books, ("kind",), 255, (), [1, 2, 6, 7, 17, 18]):
        least = LEAST.get(kind, 12)
        lengths = [n for n in starts_in(books, ("length",), 1500, (), [least]) if n >= least]
        flags = range(8) if kind == 6 else [0]
        codes = starts_in(books, ("code",), 65535) if kind == 1 else [0]
        ends = itertools.product(*ports) if kind in STATES else [(0, 0)]
        for (sport, dport), (source, destination), interface, flag, code, length in itertools.product(
                list(ends), pairs, (0, 1), flags, codes, lengths):
            sight = (interface, kind, source, sport, destination, dport, flag, code, length)
            for state in STATES.get(kind, [0]):
                yield sight, state


def plain_between(a, b, c, samples=None):
    """True if the third book decides each sample view as the first or as the second one."""
    for sight, state in samples or sample_views([a, b, c]):
        view = view_of(sight, state)
        decision = plain_walk(c, view)[0]
        if decision not in (plain_walk(a, view)[0], plain_walk(b, view)[0]):
            return False
    return True


def plain_good_sets(double, many):
    """For each set of thrown switches whether its book stays between the old and the new one."""
    books = {}
    for size in range(many + 1):
        for thrown in itertools.combinations(range(many), size):
            books[thrown] = plain_book_at(double, thrown)[0]
    old, new = books[()], books[tuple(range(many))]
    good = dict.fromkeys(books, True)
    seen = set()
    for sight, state in sample_views(list(books.values())):
        view = view_of(sight, state)
        if view in seen:
            continue
        seen.add(view)
        right = (plain_walk(old, view)[0], plain_walk(new, view)[0])
        for thrown, book in books.items():
            if good[thrown] and plain_walk(book, view)[0] not in right:
                good[thrown] = False
    return good


def is_plain_smooth(order, good):
    return all(good[tuple(sorted(order[:k]))] for k in range(len(order) + 1))


def few_fields(source):
    """One or two fields with an end or two, so that all views can be tried."""
    name = source.choice(["talk", "side", "flags", "interface", "sport", "dport", "source", "destination", "length", "code"])
    tops = {"talk": 6, "side": 1, "flags": 7, "interface": 1, "length": 1500}
    found = {}
    for field in {name, source.choice(["kind", "talk", "sport", "source"])}:
        top = tops.get(field, 255 if field == "kind" else 65535)
        found[field] = sorted({source.choice((1, top, source.randint(1, top))) for _ in range(source.choice((1, 2)))})
    return found


def random_double(source, most=4):
    """A double book with at most so many switches."""
    fields = few_fields(source)
    book = source.choice((living_book, late_book))(source, fields, 4)
    left = source.randint(0, most)
    chains = []
    for i, (word, rules, default) in enumerate(book):
        found = []
        for conditions, action in rules:
            when = "both"
            if left and source.random() < 0.7:
                when = source.choice(("old", "new"))
                left -= 1
            found.append((conditions, action, when))
        defaults = (default, default)
        if left and source.random() < 0.4:
            defaults = (default, source.choice(DECISIONS if i == 0 else DECISIONS + [("back",)]))
            left -= defaults[0] != defaults[1]
        chains.append((word, tuple(found), defaults))
    return tuple(chains)


# The old book accepts by its mark, the new one by its jump; with both rules, or with none, a packet is dropped.
BLOCKED = (
    ("main", (
        ((), ("mark", 1), "old"), ((), ("jump", "far"), "new"), ((("mark", ((1, 1),)),), ("accept",), "both"),
    ), (("drop",), ("drop",))),
    ("far", (((("mark", ((1, 1),)),), ("drop",), "both"),), (("accept",), ("accept",))),
)


def blocked_double(source):
    """A double book that is like BLOCKED for a part of the packets, with up to two other switches."""
    fields = few_fields(source)
    field = sorted(fields)[0]
    part = ((field, random_set(source, fields[field], TOPS[FIELDS.index(field)]) or ((0, 0),)),)
    (word, rules, defaults), far = BLOCKED
    rules = [(part + conditions, action, when) for conditions, action, when in rules]
    for _ in range(source.randint(0, 2)):
        other = source.choice(sorted(fields))
        conditions = ((other, random_set(source, fields[other], TOPS[FIELDS.index(other)])),)
        new = (conditions, source.choice(DECISIONS + [("mark", 1)]), source.choice(("old", "new")))
        rules.insert(source.randint(0, len(rules)), new)
    return ((word, tuple(rules), defaults), far)
