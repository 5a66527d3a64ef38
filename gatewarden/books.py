"""Books of rules, and single changes of them (points 4.1 to 4.3, 4.5)."""

from gatewarden.errors import BadBook, NoPlace
from gatewarden.ranges import is_set
from gatewarden.shapes import first_text, is_number, is_tuple, is_word
from gatewarden.views import FIELDS, TOPS

ACCEPT = ("accept",)
DROP = ("drop",)

MARK = "mark"
MARK_TOP = 255
CODE_TOP = 255
COUNT_TOP = 99

MOST_CONDITIONS = 4
MOST_RULES = 20
MOST_CHAINS = 6


def top_of(field):
    """The top of a field, or of the mark."""
    if field == MARK:
        return MARK_TOP
    return TOPS[FIELDS.index(field)]


def is_condition(value):
    """True if any value is a condition."""
    if not is_tuple(value, 2):
        return False
    field, a = value
    if type(field) != str or (field != MARK and field not in FIELDS):
        return False
    return is_set(a) and (a == () or a[-1][1] <= top_of(field))


def is_decision(value):
    """True if any value is a decision."""
    text = first_text(value)
    if text == "refuse":
        return len(value) == 2 and is_number(value[1], 0, CODE_TOP)
    return text in ("accept", "drop") and len(value) == 1


def is_action(value):
    """True if any value is an action."""
    text = first_text(value)
    if text == "jump":
        return len(value) == 2 and is_word(value[1])
    if text == "mark":
        return len(value) == 2 and is_number(value[1], 0, MARK_TOP)
    if text == "count":
        return len(value) == 2 and is_number(value[1], 0, COUNT_TOP)
    return is_back(value) or is_decision(value)


def is_back(value):
    """True if any value is the action that goes back."""
    return first_text(value) == "back" and len(value) == 1


def is_rule(value):
    """True if any value is a rule."""
    if not is_tuple(value, 2):
        return False
    conditions, action = value
    if type(conditions) != tuple or len(conditions) > MOST_CONDITIONS:
        return False
    return all(is_condition(condition) for condition in conditions) and is_action(action)


def is_chain(value):
    """True if any value is a chain."""
    if not is_tuple(value, 3):
        return False
    word, rules, default = value
    if not is_word(word) or type(rules) != tuple or len(rules) > MOST_RULES:
        return False
    return all(is_rule(rule) for rule in rules) and (is_back(default) or is_decision(default))


def is_book(value):
    """True if any value is a book."""
    if type(value) != tuple or not 1 <= len(value) <= MOST_CHAINS:
        return False
    if not all(is_chain(chain) for chain in value):
        return False
    words = [chain[0] for chain in value]
    if len(set(words)) < len(words):
        return False
    if is_back(value[0][2]) or any(is_back(rule[1]) for rule in value[0][1]):
        return False
    return all(_jumps_onwards(value[i], words[i + 1:]) for i in range(len(value)))


def _jumps_onwards(chain, later):
    """True if each rule of a chain that jumps names one of the later chains."""
    return all(action[0] != "jump" or action[1] in later for _, action in chain[1])


def rule_places(book):
    """The places of all rules of a book, ascending."""
    return [(i, k) for i in range(len(book)) for k in range(len(book[i][1]))]


def without_rule(book, place):
    """The book without the rule at a place."""
    i, k = place
    if not 0 <= i < len(book) or not 0 <= k < len(book[i][1]):
        raise NoPlace("there is no such rule")
    rules = book[i][1]
    return _with_rules(book, i, (*rules[:k], *rules[k + 1:]))


def with_rule(book, place, rule):
    """The book with a rule put in at a place."""
    i, k = place
    if not 0 <= i < len(book) or not 0 <= k <= len(book[i][1]):
        raise NoPlace("there is no such place")
    rules = book[i][1]
    return _with_rules(book, i, (*rules[:k], rule, *rules[k:]))


def with_default(book, word, default):
    """The book with another default of a chain."""
    words = [chain[0] for chain in book]
    if word not in words:
        raise NoPlace("there is no such chain")
    i = words.index(word)
    return _with_chain(book, i, (word, book[i][1], default))


def _with_rules(book, i, rules):
    word, _, default = book[i]
    return _with_chain(book, i, (word, rules, default))


def _with_chain(book, i, chain):
    """The book with another chain with the number i; BadBook if it is none."""
    found = (*book[:i], chain, *book[i + 1:])
    if not is_book(found):
        raise BadBook("this is no book")
    return found
