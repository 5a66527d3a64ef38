"""Books for the tests: the one of the document, others by chance, and what they decide, found another way."""

import itertools

from gatewarden.ranges import ends_of, set_of
from gatewarden.views import FIELDS, TOPS

B = (
    ("main", (
        ((("talk", ((2, 5),)),), ("accept",)),
        ((("interface", ((0, 0),)), ("talk", ((1, 1),))), ("jump", "inner")),
    ), ("drop",)),
    ("inner", (((("dport", ((80, 80),)),), ("accept",)),), ("refuse", 3)),
)

DECISIONS = [("accept",), ("drop",), ("refuse", 0), ("refuse", 3)]
LETTERS = "abcdef"


def random_set(source, ends, top):
    """A set that changes at some of the given ends alone."""
    cuts = [0] + sorted(ends) + [top + 1]
    return set_of([(low, high - 1) for low, high in zip(cuts, cuts[1:]) if source.random() < 0.5])


def random_fields(source, many, most):
    """So many fields, each with at most so many ends."""
    chosen = source.sample(FIELDS, many)
    found = {}
    for field in chosen:
        top = TOPS[FIELDS.index(field)]
        ends = {source.choice((1, top, source.randint(1, top))) for _ in range(source.randint(1, most))}
        found[field] = sorted(ends)
    return found


def random_book(source, rules=8, fields=None, chains=None):
    """A book with at most so many rules, on fields with ends as random_fields tells them."""
    if fields is None:
        fields = random_fields(source, 3, 2)
    chains = chains or source.randint(1, 4)
    words = LETTERS[:chains]
    found = [[] for _ in words]
    for _ in range(source.randint(0, rules)):
        i = source.randrange(chains)
        conditions = []
        for _ in range(source.randint(0, 3)):
            if source.random() < 0.2:
                conditions.append(("mark", random_set(source, [1, 3], 255)))
            else:
                field = source.choice(list(fields))
                conditions.append((field, random_set(source, fields[field], TOPS[FIELDS.index(field)])))
        actions = DECISIONS + [("mark", 1), ("mark", 3), ("count", source.randrange(100))]
        actions += [("jump", word) for word in words[i + 1:]] * 2
        if i > 0:
            actions += [("back",)] * 2
        found[i].append((tuple(conditions), source.choice(actions)))
    defaults = [source.choice(DECISIONS if i == 0 else DECISIONS + [("back",)] * 4) for i in range(chains)]
    return tuple((words[i], tuple(found[i]), defaults[i]) for i in range(chains))


def holds(a, number):
    return any(low <= number <= high for low, high in a)


def plain_walk(book, view):
    """The walk of point 4.4, chain within chain."""
    words = [chain[0] for chain in book]
    now = {"mark": 0, "counts": [], "met": []}

    def value(field):
        return now["mark"] if field == "mark" else view[FIELDS.index(field)]

    def through(i):
        for k, (conditions, action) in enumerate(book[i][1]):
            if not all(holds(a, value(field)) for field, a in conditions):
                continue
            now["met"].append((i, k))
            if action[0] == "jump":
                decision = through(words.index(action[1]))
                if decision is not None:
                    return decision
            elif action == ("back",):
                return None
            elif action[0] == "mark":
                now["mark"] = action[1]
            elif action[0] == "count":
                now["counts"].append(action[1])
            else:
                return action
        default = book[i][2]
        return None if default == ("back",) else default

    decision = through(0)
    return (decision, now["mark"], tuple(now["counts"]), tuple(now["met"]))


def ends_in(book):
    """For each field the numbers at which some condition of a book changes."""
    found = []
    for field, top in zip(FIELDS, TOPS):
        sets = [
            a for _, rules, _ in book for conditions, _ in rules for name, a in conditions if name == field
        ]
        found.append(ends_of(sets, top))
    return found


def ends_in_plan(plan):
    """For each field the numbers at which some node of a plan changes its way."""
    found = [set() for _ in FIELDS]
    for field, branches in plan[0]:
        found[field] |= {high + 1 for high, _ in branches[:-1]}
    return [sorted(ends) for ends in found]


def corners(*rows_of_ends):
    """The least tuples of all parts into which ends cut the tuples, ascending."""
    starts = [sorted({0}.union(*[rows[k] for rows in rows_of_ends])) for k in range(len(FIELDS))]
    return list(itertools.product(*starts))


def random_view(source, ends):
    """A tuple of eleven integers, often at or beside one of some ends."""
    found = []
    for k, top in enumerate(TOPS):
        near = [number for end in ends[k] for number in (end - 1, end)] or [0]
        found.append(source.choice((0, top, source.randint(0, top), source.choice(near))))
    return tuple(found)
