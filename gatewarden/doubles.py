"""Double books, which hold an old and a new book at the same time (points 11.1 and 11.4)."""

from gatewarden.books import is_back, is_book, is_decision, is_rule
from gatewarden.errors import TooMany, Unlike
from gatewarden.shapes import is_tuple, is_word

BOTH = "both"
NEW = "new"
OLD = "old"

MOST_SWITCHES = 6


def is_double(value):
    """True if any value is a double book."""
    if type(value) != tuple or not all(_is_double_chain(chain) for chain in value):
        return False
    count = switches(value)
    return count <= MOST_SWITCHES and all(is_book(book_at(value, thrown)) for thrown in thrown_sets(count))


def _is_double_chain(value):
    if not is_tuple(value, 3):
        return False
    word, rules, defaults = value
    if not is_word(word) or type(rules) != tuple or not all(_is_double_rule(rule) for rule in rules):
        return False
    return is_tuple(defaults, 2) and all(is_back(default) or is_decision(default) for default in defaults)


def _is_double_rule(value):
    if not is_tuple(value, 3) or not is_rule(value[:2]):
        return False
    return type(value[2]) == str and value[2] in (BOTH, NEW, OLD)


def switches(double):
    """The number of the switches of a double book."""
    count = 0
    for _, rules, defaults in double:
        count += sum(1 for _, _, when in rules if when != BOTH)
        if defaults[0] != defaults[1]:
            count += 1
    return count


def thrown_sets(count):
    """All ascending tuples of the numbers of so many switches, each one behind those that are parts of it."""
    return [tuple(k for k in range(count) if bits >> k & 1) for bits in range(1 << count)]


def book_at(double, thrown):
    """The book in which the switches with some numbers are thrown."""
    number = 0
    chains = []
    for word, rules, defaults in double:
        left = []
        for conditions, action, when in rules:
            stands = when == BOTH or (when == NEW) == (number in thrown)
            if when != BOTH:
                number += 1
            if stands:
                left.append((conditions, action))
        default = defaults[0]
        if defaults[0] != defaults[1]:
            if number in thrown:
                default = defaults[1]
            number += 1
        chains.append((word, tuple(left), default))
    return tuple(chains)


def double_of(old, new):
    """The double book of two books; Unlike if the words of their chains differ, TooMany if it would be none."""
    if [chain[0] for chain in old] != [chain[0] for chain in new]:
        raise Unlike("the chains have other words")
    chains = []
    for i in range(len(old)):
        word, old_rules, old_default = old[i]
        _, new_rules, new_default = new[i]
        chains.append((word, _double_rules(old_rules, new_rules), (old_default, new_default)))
    double = tuple(chains)
    if not is_double(double):
        raise TooMany("the books differ in too much")
    return double


def _double_rules(old, new):
    """The shortest common list of two tuples of rules, of several the one whose texts are the first."""
    lengths = _shortest_lengths(old, new)
    found = []
    i, k = 0, 0
    while i < len(old) or k < len(new):
        if i < len(old) and k < len(new) and old[i] == new[k]:
            found.append((*old[i], BOTH))
            i += 1
            k += 1
        elif i == len(old) or (k < len(new) and lengths[(i, k)] == lengths[(i, k + 1)] + 1):
            # The text `new` stands before `old`, so the new rule comes first where it may.
            found.append((*new[k], NEW))
            k += 1
        else:
            found.append((*old[i], OLD))
            i += 1
    return tuple(found)


def _shortest_lengths(old, new):
    """For two numbers the length of a shortest common list of the rules from these numbers on."""
    found = {}
    for i in reversed(range(len(old) + 1)):
        for k in reversed(range(len(new) + 1)):
            if i == len(old) or k == len(new):
                found[(i, k)] = len(old) - i + len(new) - k
            elif old[i] == new[k]:
                found[(i, k)] = found[(i + 1, k + 1)] + 1
            else:
                found[(i, k)] = min(found[(i + 1, k)], found[(i, k + 1)]) + 1
    return found
