"""Texts of books, exchanges and sights (points 15.1 to 15.4)."""

from gatewarden.books import MOST_CHAINS, MOST_RULES, is_back, is_book, is_decision, is_rule
from gatewarden.errors import BadLine, BadText
from gatewarden.numerals import read_items, read_number, read_numbers, write_items
from gatewarden.prefixes import is_exchange
from gatewarden.ranges import read_set, write_set
from gatewarden.shapes import is_word
from gatewarden.views import is_sight

# What stands between the pairs of an exchange.
PAIR_GAP = ", "


def read_decision(items):
    """The decision whose text has some items between its blanks; BadText if there is none."""
    found = read_items(items)
    if not is_decision(found):
        raise BadText("no decision has this text")
    return found


def read_default(items):
    """The default whose text has some items between its blanks; BadText if there is none."""
    found = read_items(items)
    return found if is_back(found) else read_decision(items)


def _write_rule(rule):
    conditions, action = rule
    told = [f"{field}={write_set(a)}" for field, a in conditions]
    return " ".join(["rule", *told, write_items(action)])


def read_rule(items):
    """The rule whose text has some items between its blanks; BadText if there is none."""
    if items[:1] != ["rule"]:
        raise BadText("here stands a rule")
    count = 1
    while count < len(items) and "=" in items[count]:
        count += 1
    conditions = []
    for item in items[1:count]:
        field, _, text = item.partition("=")
        conditions.append((field, read_set(text)))
    found = (tuple(conditions), read_items(items[count:]))
    if not is_rule(found):
        raise BadText("no rule has this text")
    return found


def write_book(book):
    """The text of a book."""
    lines = []
    for word, rules, default in book:
        lines.append(f"chain {word}")
        lines.extend([_write_rule(rule) for rule in rules])
        lines.append(f"default {write_items(default)}")
    return "\n".join(lines)


class BookLines:
    """The book of some lines, read one by one."""

    def __init__(self):
        self.chains = []
        self.words = []
        self.rules = []
        self.is_open = False
        # The words of chains that rules jump to and that are still to come.
        self.awaited = []

    def read_line(self, line):
        """Reads the next line; BadText if no book has the lines so far."""
        items = line.split(" ")
        if not self.is_open:
            self._begin(items)
        elif items[0] == "rule":
            self._add_rule(read_rule(items))
        elif items[0] == "default":
            self._end(read_default(items[1:]))
        else:
            raise BadText("here stands a rule or a default")
        if len(self.words) + len(self.awaited) > MOST_CHAINS:
            raise BadText("there is no room for so many chains")

    def _begin(self, items):
        if len(items) != 2 or items[0] != "chain" or not is_word(items[1]) or items[1] in self.words:
            raise BadText("here stands a new chain")
        self.words.append(items[1])
        self.rules = []
        self.awaited = [word for word in self.awaited if word != items[1]]
        self.is_open = True

    def _add_rule(self, rule):
        self._check_back(rule[1])
        if len(self.rules) == MOST_RULES:
            raise BadText("the chain has too many rules")
        if rule[1][0] == "jump":
            word = rule[1][1]
            if word in self.words:
                raise BadText("a rule jumps onwards alone")
            if word not in self.awaited:
                self.awaited.append(word)
        self.rules.append(rule)

    def _end(self, default):
        self._check_back(default)
        self.chains.append((self.words[-1], tuple(self.rules), default))
        self.is_open = False

    def _check_back(self, action):
        if is_back(action) and len(self.words) == 1:
            raise BadText("there is no way back from the first chain")


def read_book(text):
    """The book that has a text; BadLine with the first line that spoils it if there is none."""
    lines = text.split("\n")
    reading = BookLines()
    for k in range(len(lines)):
        try:
            reading.read_line(lines[k])
        except BadText:
            raise BadLine(k)
    found = tuple(reading.chains)
    if reading.is_open or not is_book(found):
        raise BadLine(len(lines))
    return found


def _write_prefix(prefix):
    base, length = prefix
    return f"{base}/{length}"


def _read_prefix(text):
    base, _, length = text.partition("/")
    return read_number(base), read_number(length)


def write_exchange(exchange):
    """The text of an exchange."""
    if not exchange:
        return "none"
    return PAIR_GAP.join([f"{_write_prefix(one)}={_write_prefix(other)}" for one, other in exchange])


def read_exchange(text):
    """The exchange that has a text; BadText if there is none."""
    if text == "none":
        return ()
    pairs = []
    for part in text.split(PAIR_GAP):
        one, _, other = part.partition("=")
        pairs.append((_read_prefix(one), _read_prefix(other)))
    found = tuple(pairs)
    if not is_exchange(found):
        raise BadText("no exchange has this text")
    return found


def write_sight(sight):
    """The text of a sight."""
    return write_items(sight)


def read_sight(text):
    """The sight that has a text; BadText if there is none."""
    found = tuple(read_numbers(text.split(" ")))
    if not is_sight(found):
        raise BadText("no sight has this text")
    return found
