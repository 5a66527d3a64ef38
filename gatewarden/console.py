"""The console: a desk that is asked by lines (point 17.3)."""

from gatewarden.books import with_rule, without_rule
from gatewarden.booktexts import read_decision, read_default, read_exchange, read_rule, read_sight, write_book
from gatewarden.desk import Desk
from gatewarden.errors import BadBook, BadText, Full, InUse, NoPlace, NothingToUndo, Taken, Unknown
from gatewarden.gate import OUTER
from gatewarden.needed import hidden_rules, needless_rules
from gatewarden.numerals import read_numbers
from gatewarden.packets import write_packet
from gatewarden.plans import plan_of
from gatewarden.prefixes import exchanged
from gatewarden.questions import shortest
from gatewarden.shapes import is_word
from gatewarden.views import packet_of

OK = "ok"


def _words(items, count):
    """The items of a line, if they are so many words; otherwise BadText."""
    if len(items) != count or not all(is_word(item) for item in items):
        raise BadText("here stand other words")
    return items


def _word(items):
    """The one item of a line, if it is a word; otherwise BadText."""
    return _words(items, 1)[0]


def _word_and_place(items):
    """The word and the place that three items tell; BadText if they tell none."""
    if len(items) != 3:
        raise BadText("here stands a place")
    return _word(items[:1]), tuple(read_numbers(items[1:]))


def _book(desk, items):
    word = _word(items[:1])
    decision = read_decision(items[1:])
    desk.set_book(word, (("main", (), decision),))
    return [OK]


def _rule(desk, items):
    word, place = _word_and_place(items[:3])
    rule = read_rule(items[3:])
    desk.set_book(word, with_rule(desk.book(word), place, rule))
    return [OK]


def _unrule(desk, items):
    word, place = _word_and_place(items)
    desk.set_book(word, without_rule(desk.book(word), place))
    return [OK]


def _chain(desk, items):
    word, name = _words(items[:2], 2)
    default = read_default(items[2:])
    desk.set_book(word, (*desk.book(word), (name, (), default)))
    return [OK]


def _drop(desk, items):
    desk.drop_book(_word(items))
    return [OK]


def _gate(desk, items):
    word, name = _words(items[:2], 2)
    exchange = read_exchange(" ".join(items[2:]))
    desk.add_gate(word, name, exchange)
    return [OK]


def _ungate(desk, items):
    desk.drop_gate(_word(items))
    return [OK]


def _put(desk, items):
    word, name = _words(items, 2)
    desk.set_gate(word, name)
    return [OK]


def _see(desk, items):
    word = _word(items[:1])
    sight = read_sight(" ".join(items[1:]))
    packet = packet_of(sight)
    if sight[0] == OUTER:
        # The gate exchanges the destination again when the packet comes in.
        packet = (packet[0], exchanged(desk.gate(word).exchange(), packet[1]), *packet[2:])
    result = desk.receive(word, sight[0], write_packet(packet))
    if result[0] == "dropped":
        return [" ".join(result)]
    return [result[0]]


def _talks(desk, items):
    return [str(len(desk.gate(_word(items)).talks()))]


def _show(desk, items):
    return write_book(desk.book(_word(items))).split("\n")


def _dump(desk, items):
    return desk.dump(_word(items)).split("\n")


def _alike(desk, items):
    first, second = _words(items, 2)
    fewest = shortest(("part", (desk.book(first),), (desk.book(second),)))
    return ["yes" if fewest is None else f"no {fewest}"]


def _hidden(desk, items):
    return [_write_places(hidden_rules(desk.book(_word(items))))]


def _needless(desk, items):
    return [_write_places(needless_rules(desk.book(_word(items))))]


def _write_places(places):
    """The text of the places of some rules."""
    if not places:
        return "none"
    return " ".join([f"{i}.{k}" for i, k in places])


def _size(desk, items):
    nodes, _ = plan_of(desk.book(_word(items)))
    return [str(len(nodes))]


def _undo(desk, items):
    _words(items, 0)
    desk.undo()
    return [OK]


COMMANDS = {
    "book": _book, "rule": _rule, "unrule": _unrule, "chain": _chain, "drop": _drop, "gate": _gate,
    "ungate": _ungate, "put": _put, "see": _see, "talks": _talks, "show": _show, "dump": _dump,
    "alike": _alike, "hidden": _hidden, "needless": _needless, "size": _size, "undo": _undo,
}


def _answered(desk, line):
    """The texts that a line gets; BadText if it has none of the forms."""
    word, *items = line.split(" ")
    if word not in COMMANDS:
        raise BadText("there is no such command")
    command = COMMANDS[word]
    return command(desk, items)


class Console:
    """A desk that is asked by lines, and answers by texts."""

    def __init__(self):
        self._desk = Desk()

    def enter(self, line):
        """The texts that a line gets."""
        try:
            return _answered(self._desk, line)
        except BadText:
            return ["error BadText"]
        except NoPlace:
            return ["error NoPlace"]
        except BadBook:
            return ["error BadBook"]
        except Unknown:
            return ["error Unknown"]
        except InUse:
            return ["error InUse"]
        except Taken:
            return ["error Taken"]
        except Full:
            return ["error Full"]
        except NothingToUndo:
            return ["error NothingToUndo"]
