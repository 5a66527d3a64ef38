"""Dumps of gates (points 16.1 and 16.2)."""

from gatewarden.books import COUNT_TOP
from gatewarden.booktexts import read_book, read_exchange, write_book, write_exchange
from gatewarden.errors import BadLine, BadText
from gatewarden.gate import Gate
from gatewarden.numerals import read_number, read_numbers, write_items
from gatewarden.shapes import is_number
from gatewarden.talks import greatest_state, is_key

# The words with which lines begin.
EXCHANGE_WORD = "exchange "
BOOK_WORDS = ("chain", "rule", "default")
TALK_WORD = "talk"
COUNT_WORD = "count"
END = "end"

# The items of the lines of talks and counts, the word among them.
TALK_ITEMS = 7
COUNT_ITEMS = 3


def dumped(gate):
    """The dump of a gate."""
    lines = [EXCHANGE_WORD + write_exchange(gate.exchange()), write_book(gate.book())]
    for (kind, first, second), state in gate.talks():
        lines.append(write_items([TALK_WORD, kind, *first, *second, state]))
    for number, count in gate.counts():
        lines.append(write_items([COUNT_WORD, number, count]))
    lines.append(END)
    return "\n".join(lines)


def loaded(text):
    """A new gate whose dump a text is; BadText if there is none."""
    lines = text.split("\n")
    if not lines[0].startswith(EXCHANGE_WORD):
        raise BadText("a dump begins with an exchange")
    exchange = read_exchange(lines[0][len(EXCHANGE_WORD):])
    count = 1
    while count < len(lines) and lines[count].split(" ")[0] in BOOK_WORDS:
        count += 1
    gate = Gate(_read_book_part(lines[1:count]), exchange)
    rest = [line.split(" ") for line in lines[count:]]
    talks = [_read_talk(items) for items in rest if items[0] == TALK_WORD]
    counts = [_read_count(items) for items in rest if items[0] == COUNT_WORD]
    gate.take_over(talks, counts)
    # All that is left out, moved or told twice makes another text.
    if dumped(gate) != text:
        raise BadText("no gate has this dump")
    return gate


def _read_book_part(lines):
    try:
        return read_book("\n".join(lines))
    except BadLine:
        raise BadText("no book has these lines")


def _read_talk(items):
    """The pair of the key and the state of a line of a dump."""
    if len(items) != TALK_ITEMS:
        raise BadText("no talk has this text")
    kind, first, first_port, second, second_port = read_numbers(items[1:-1])
    key = (kind, (first, first_port), (second, second_port))
    word = items[-1]
    state = -read_number(word[1:]) if word.startswith("-") else read_number(word)
    top = greatest_state(kind)
    if not is_key(key) or state == 0 or not is_number(state, -top, top):
        raise BadText("no talk has this text")
    return key, state


def _read_count(items):
    """The pair of the number and how often of a line of a dump."""
    if len(items) != COUNT_ITEMS:
        raise BadText("no count has this text")
    number, often = read_numbers(items[1:])
    if number > COUNT_TOP or often == 0:
        raise BadText("no count has this text")
    return number, often
