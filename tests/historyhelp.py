"""Rows, watches and histories for the tests, run another way than the package does it.

A talk is kept as its number and the end that opened it, so no sign and no sender is needed.
"""

import itertools

from gatewarden.ranges import ends_of, set_of
from gatewarden.views import FIELDS, TOPS
from tests.bookhelp import B, DECISIONS, holds, plain_walk, random_book, random_set
from tests.test_talks import ASKING, STREAM

ACCEPT, DROP = ("accept",), ("drop",)
NO_TALK = (0, None)
LEAST = {6: 20, 17: 18, 1: 16}

# Accepts what living talks and asked ones need, and opens talks from the inner network alone.
KEEPER = (
    ("main", (
        ((("talk", ((2, 5),)),), ACCEPT),
        ((("interface", ((0, 0),)), ("talk", ((1, 1),))), ACCEPT),
    ), DROP),
)
ALL = (("main", (), ACCEPT),)
NOTHING = (("main", (), DROP),)


def only(*conditions, action=ACCEPT, default=DROP):
    """The book with one rule."""
    return (("main", ((conditions, action),), default),)


def ends_of_sight(sight):
    return (sight[2], sight[3]), (sight[4], sight[5])


def has_talks(sight):
    return sight[1] in (6, 17)


def plain_look(talk, sight):
    """The talk code, the side and the talk after an accepted packet."""
    if not has_talks(sight):
        return 0, 0, NO_TALK
    number, opener = talk
    source, _ = ends_of_sight(sight)
    side = 0 if number == 0 or source == opener else 1
    if sight[1] == 6:
        then = STREAM[number].get((side, sight[6]))
    else:
        then = ASKING[number].get(side)
    if then is None:
        return 6, side, talk
    after = NO_TALK if then == 0 else (then, source if number == 0 else opener)
    return number + 1, side, after


def plain_row(row, talks, sight):
    """The decision of a row, the talks after it, and the walks at the gates that saw the sight."""
    after = list(talks)
    walks = []
    order = list(range(len(row)))
    if sight[0] == 1:
        order = order[::-1]
    for i in order:
        code, side, then = plain_look(talks[i], sight)
        walks.append(plain_walk(row[i], sight + (code, side)))
        if walks[-1][0] != ACCEPT:
            return walks[-1][0], after, walks
        after[i] = then
    return ACCEPT, after, walks


def plain_key(sight):
    """The key of a sight, or None."""
    if not has_talks(sight):
        return None
    return (sight[1],) + tuple(sorted(ends_of_sight(sight)))


def signed(key, talk):
    """The state of a talk as the document tells it."""
    number, opener = talk
    return number if opener in (None, key[1]) else -number


def plain_run(row, history):
    """The decisions, the walks at the gates that saw each sight, and the pairs of a key and its states at the end."""
    talks = {}
    decisions, walks = [], []
    for sight in history:
        key = plain_key(sight)
        decision, after, seen = plain_row(row, talks.get(key, [NO_TALK] * len(row)), sight)
        decisions.append(decision)
        walks.append(seen)
        if key:
            talks[key] = after
    states = [(key, tuple(signed(key, talk) for talk in talks[key])) for key in sorted(talks)]
    return decisions, walks, [(key, told) for key, told in states if any(told)]


def books_in(watch):
    """All books of a watch, those of the gates that keep states first."""
    if watch[0] == "part":
        return list(watch[1]) + list(watch[2])
    if watch[0] == "get":
        return list(watch[1])
    return [watch[1]] + ([watch[2]] if watch[0] == "break" else [])


def gates_in(watch):
    return len(books_in(watch)) - (watch[0] == "break")


def plain_step(watch, talks, sight):
    """Whether a watch comes true at a sight, and the talks of its gates after it."""
    if watch[0] == "part":
        first, second = watch[1:]
        one, left, _ = plain_row(first, talks[:len(first)], sight)
        other, right, _ = plain_row(second, talks[len(first):], sight)
        return one != other, left + right
    if watch[0] == "get":
        _, row, conditions, decision = watch
        found, after, _ = plain_row(row, talks, sight)
        good = all(holds(a, sight[FIELDS.index(field)]) for field, a in conditions)
        return found == decision and good, after
    decision, after, walks = plain_row((watch[1],), talks, sight)
    if watch[0] == "meet":
        return watch[2] in walks[0][3], after
    code, side, _ = plain_look(talks[0], sight)
    if talks[0] == NO_TALK or code == 6 or decision != ACCEPT:
        return False, after
    return plain_walk(watch[2], sight + (code, side))[0] != ACCEPT, after


def plain_comes_true(watch, history):
    """The number of the first sight at which a watch comes true, or None."""
    talks = {}
    for k, sight in enumerate(history):
        key = plain_key(sight)
        good, after = plain_step(watch, talks.get(key, [NO_TALK] * gates_in(watch)), sight)
        if good:
            return k
        if key:
            talks[key] = after
    return None


def starts_in(books, fields, top, conditions=(), more=()):
    """The least numbers of the parts into which conditions on some fields cut the numbers up to a top."""
    sets = [a for field, a in conditions if field in fields]
    for book in books:
        for _, rules, _ in book:
            sets.extend([a for told, _ in rules for field, a in told if field in fields])
    return sorted({0, *more, *ends_of(sets, top)})


def sample_talks(books, conditions=()):
    """For kinds with talks: lists of the sights of one key each, so that each way to cut lanes is there."""
    addresses = starts_in(books, ("source", "destination"), 65535, conditions)
    pairs = list(itertools.combinations(addresses, 2))
    pairs += [(low, low + 1) for low in addresses if low < 65535 and low + 1 not in addresses]
    ports = starts_in(books, ("sport", "dport"), 65535, conditions)
    for kind in (6, 17):
        lengths = [
            n for n in starts_in(books, ("length",), 1500, conditions, [LEAST[kind]]) if n >= LEAST[kind]
        ]
        flags = range(8) if kind == 6 else [0]
        for (one, other), port, far in itertools.product(pairs, ports, ports):
            ends = ((one, port), (other, far))
            yield [
                (interface, kind) + ends[k] + ends[1 - k] + (flag, 0, length)
                for k in (0, 1) for interface in (0, 1) for flag in flags for length in lengths
            ]


def sample_loose(books, conditions=()):
    """Sights of kinds without talks, so that each way to cut boxes is there."""
    kinds = starts_in(books, ("kind",), 255, conditions, [1, 2, 6, 7, 17, 18])
    sources = starts_in(books, ("source",), 65535, conditions)
    destinations = starts_in(books, ("destination",), 65535, conditions)
    for kind in kinds:
        if kind in (6, 17):
            continue
        least = LEAST.get(kind, 12)
        lengths = [n for n in starts_in(books, ("length",), 1500, conditions, [least]) if n >= least]
        codes = starts_in(books, ("code",), 65535, conditions) if kind == 1 else [0]
        for interface, source, destination, code, length in itertools.product(
                (0, 1), sources, destinations, codes, lengths):
            if source == destination:
                # Another address of the same part, if it has one.
                if source + 1 in sources + [65536]:
                    if destination + 1 in destinations + [65536]:
                        continue
                    destination += 1
                else:
                    source += 1
            yield (interface, kind, source, 0, destination, 0, 0, code, length)


def plain_shortest(watch):
    """The fewest sights of a history at whose last one a watch comes true, or None, by trying all sample sights."""
    books = books_in(watch)
    conditions = watch[2] if watch[0] == "get" else ()
    nothing = [NO_TALK] * gates_in(watch)
    best = None
    for sight in sample_loose(books, conditions):
        if plain_step(watch, nothing, sight)[0]:
            return 1
    for sights in sample_talks(books, conditions):
        rows = plain_levels(watch, sights, None if best is None else best - 1)
        if rows is not None:
            best = rows
    return best


def plain_levels(watch, sights, most):
    """The fewest of some sights of one key, at most so many, at which a watch comes true, or None."""
    seen = [[NO_TALK] * gates_in(watch)]
    level = list(seen)
    count = 0
    while level and (most is None or count < most):
        count += 1
        new = []
        for talks in level:
            for sight in sights:
                good, after = plain_step(watch, talks, sight)
                if good:
                    return count
                if after not in seen:
                    seen.append(after)
                    new.append(after)
        level = new
    return None


def small_fields(source):
    """A few fields with few ends, so that all sample sights can be tried."""
    chosen = ["talk", source.choice(["interface", "side", "flags", "length", "kind", "code"])]
    chosen.append(source.choice(["source", "destination", "sport", "dport"]))
    found = {}
    for field in chosen:
        top = TOPS[FIELDS.index(field)]
        many = source.choice((1, 1, 2)) if field != "talk" else 2
        found[field] = sorted({source.choice((1, top, source.randint(1, top))) for _ in range(many)})
    return found


def living_book(source, fields, rules=4):
    """A book by chance that lets some talks live: it accepts more than it drops."""
    book = random_book(source, rules, fields, source.choice((1, 1, 2)))
    words, found = [chain[0] for chain in book], []
    for i, (word, told, default) in enumerate(book):
        kept = [
            (conditions, ACCEPT if action in DECISIONS and source.random() < 0.6 else action)
            for conditions, action in told
        ]
        if default in DECISIONS and source.random() < 0.5:
            default = ACCEPT
        found.append((words[i], tuple(kept), default))
    return tuple(found)


def late_book(source, fields, rules=5):
    """A book by chance whose rules ask how far a talk has come, so that some are met late or never."""
    found = []
    for _ in range(source.randint(2, rules)):
        codes = sorted(source.sample(range(1, 7), source.choice((1, 1, 2, 3))))
        conditions = [("talk", set_of([(code, code) for code in codes]))]
        for field in ("side", "interface", *[field for field in fields if field not in ("talk", "side", "interface")]):
            if source.random() < 0.35:
                top = TOPS[FIELDS.index(field)]
                conditions.append((field, random_set(source, fields.get(field, [1]), top)))
        source.shuffle(conditions)
        found.append((tuple(conditions[:3]), source.choice([ACCEPT] * 5 + DECISIONS + [("mark", 1), ("count", 7)])))
    return (("main", tuple(found), source.choice((ACCEPT, DROP, ("refuse", 0)))),)


def changed_book(source, book, fields):
    """A book that differs from a book in one rule or default, mostly in little."""
    i = source.randrange(len(book))
    word, rules, default = book[i]
    k = source.randint(0, len(rules))
    chance = source.random()
    if chance < 0.3 and rules:
        rules = rules[:k] + rules[k + 1:]
    elif chance < 0.6:
        field = source.choice(sorted(fields))
        a = random_set(source, fields[field], TOPS[FIELDS.index(field)])
        rules = rules[:k] + ((((field, a),), source.choice(DECISIONS)),) + rules[k:]
    elif chance < 0.7 and len(rules) > 1:
        rules = rules[1:] + rules[:1]
    elif chance < 0.95:
        # What differs late in a talk, if it comes so far.
        code = source.randint(2, 5)
        rules = (((("talk", ((code, code),)),), source.choice(DECISIONS)),) + rules
    else:
        default = source.choice(DECISIONS)
    return book[:i] + ((word, rules, default),) + book[i + 1:]


def random_watch(source, gates=3):
    """A watch by chance, of rows with so many gates together."""
    fields = small_fields(source)
    book = source.choice((living_book, late_book, late_book))(source, fields)
    other = changed_book(source, book, fields)
    word = source.choice(("part", "get", "break", "meet"))
    if word == "part":
        first = [source.choice((book, other, KEEPER)) for _ in range(source.randint(1, gates - 1))]
        second = [source.choice((book, other)) for _ in range(source.randint(1, gates - len(first)))]
        return ("part", tuple(first), tuple(second))
    if word == "get":
        row = tuple(source.choice((book, other, B)) for _ in range(source.randint(1, min(gates, 2))))
        conditions = []
        for field in sorted(fields)[:source.randint(0, 2)]:
            if field not in ("talk", "side"):
                conditions.append((field, random_set(source, fields[field], TOPS[FIELDS.index(field)])))
        if source.random() < 0.5:
            # What comes through only late, if the talk was opened before.
            row = row[:1] + (KEEPER,) * source.randint(0, 1)
            late = source.choice([("flags", ((2, 2),)), ("flags", ((4, 6),)), ("interface", ((1, 1),)), ("flags", ((0, 0),))])
            return ("get", row, tuple(conditions[:1] + [late]), ACCEPT)
        return ("get", row, tuple(conditions), source.choice(DECISIONS))
    if word == "break":
        return ("break", book, other)
    places = [(i, k) for i in range(len(book)) for k in range(len(book[i][1]))]
    return ("meet", book, source.choice(places)) if places else ("break", other, book)


def random_history(source, books, most=12):
    """A history of a few keys, mostly of sights that keep talks alive."""
    addresses = starts_in(books, ("source", "destination"), 65535)
    addresses += [number + 1 for number in addresses if number < 65535] + [65535]
    ports = starts_in(books, ("sport", "dport"), 65535) + [65535]
    lengths = starts_in(books, ("length",), 1500, (), [20, 1500])
    talks = []
    for _ in range(source.randint(1, 3)):
        one, other = source.sample(sorted(set(addresses)), 2)
        talks.append((source.choice((6, 6, 17)), (one, source.choice(ports)), (other, source.choice(ports))))
    found = []
    for _ in range(source.randint(0, most)):
        kind, *ends = source.choice(talks)
        length = source.choice([n for n in lengths if n >= 20])
        if source.random() < 0.15:
            kind = source.choice((0, 1, 40))
            ends = [(ends[0][0], 0), (ends[1][0], 0)]
        source.shuffle(ends)
        flags = source.choice((0, 1, 1, 1, 2, 4, 6, 7)) if kind == 6 else 0
        found.append((source.randrange(2), kind) + ends[0] + ends[1] + (flags, 0, length))
    return tuple(found)
