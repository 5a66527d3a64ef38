"""Texts for the tests: books of all fields and actions, and ways to spoil texts."""

from gatewarden.ranges import set_of
from gatewarden.views import FIELDS, TOPS
from tests.bookhelp import LETTERS

TOP_OF = dict(zip(FIELDS, TOPS), mark=255)
ALL_DECISIONS = [("accept",), ("drop",), ("refuse", 0), ("refuse", 7), ("refuse", 255)]


def any_set(source, top):
    """A set of numbers up to a top, often with ends that are 0 or the top."""
    many = source.choice((0, 1, 1, 2, 3))
    numbers = sorted(source.choice((0, 1, top, source.randint(0, top))) for _ in range(2 * many))
    return set_of(list(zip(numbers[::2], numbers[1::2])))


def any_rule(source, i, words):
    """A rule of the chain with a number, in a book of chains with some words."""
    conditions = []
    for _ in range(source.choice((0, 1, 1, 2, 4))):
        field = source.choice(FIELDS + ["mark"])
        conditions.append((field, any_set(source, TOP_OF[field])))
    actions = ALL_DECISIONS + [("mark", 0), ("mark", 255), ("count", 0), ("count", 99), ("mark", 17)]
    actions += [("jump", word) for word in words[i + 1:]] * 3
    if i:
        actions += [("back",)] * 3
    return (tuple(conditions), source.choice(actions))


def any_book(source, most=5):
    """A book with conditions on all fields and all actions."""
    chains = source.choice((1, 2, 3, 6))
    words = source.sample([letter * k for letter in LETTERS for k in (1, 2, 12)] + ["default", "chain", "none", "rule"], chains)
    found = []
    for i in range(chains):
        rules = tuple(any_rule(source, i, words) for _ in range(source.randint(0, most)))
        defaults = ALL_DECISIONS + ([("back",)] * 3 if i else [])
        found.append((words[i], rules, source.choice(defaults)))
    return tuple(found)


def spoilt_line(source, line):
    """A line like another one, with a sign or an item changed."""
    k = source.randint(0, len(line))
    sign = source.choice(" =-,0123456789abcdrulechaindefault~!/")
    items = line.split(" ")
    i = source.randrange(len(items))
    return source.choice([
        line[:k] + sign + line[k:], line[:k] + line[k + 1:], line[:k] + sign + line[k + 1:], line[:k] + line[k:k + 2][::-1] + line[k + 2:],
        " ".join(items[:i] + items[i + 1:]), " ".join(items[:i] + [items[i]] + items[i:]), " ".join(items[::-1]), " " + line, line + " ",
        line.replace("=", "=0"), line.replace(" ", "  "), line.replace("-", ","), "", line.upper(), line.replace("5", "12345678901"),
    ])


def spoilt_lines(source, lines):
    """Lines like others, with one put in, left out, doubled, exchanged, moved or changed."""
    k, other = source.randrange(len(lines)), source.randrange(len(lines))
    line = lines[k]
    return source.choice([
        lines[:k] + lines[k + 1:], lines[:k] + [line] + lines[k:], lines[:k] + [lines[other]] + lines[k:],
        lines[:k] + [spoilt_line(source, line)] + lines[k + 1:], lines[:k] + [spoilt_line(source, line)] + lines[k + 1:],
        lines[:k] + lines[k:k + 2][::-1] + lines[k + 2:], lines[:k], lines + [line], lines[k:], lines[:k] + [""] + lines[k:],
        (lines[:k] + lines[k + 1:])[:other] + [line] + (lines[:k] + lines[k + 1:])[other:],
    ])
