"""The desk: books and gates under names, and deeds that can be taken back (points 17.1 and 17.2)."""

from gatewarden.books import is_book
from gatewarden.dumps import dumped
from gatewarden.errors import BadBook, BadExchange, BadWord, Full, InUse, NothingToUndo, Taken, Unknown
from gatewarden.gate import Gate, copy_of
from gatewarden.keyruns import KeyRuns
from gatewarden.lanes import LaneRuns
from gatewarden.prefixes import is_exchange
from gatewarden.questions import alike, breaks
from gatewarden.shapes import is_word

MOST_BOOKS = 8
MOST_GATES = 4

# The words of right papers for a watch that comes true in some history, and in none.
COMES_TRUE = "history"
NEVER_TRUE = "closed"


class Desk:
    """Books and gates under words.

    `_gates` has pairs of the name of the book with which a gate was made or set last, and
    the gate. What stands in `_books` and `_gates` is never changed: a deed puts others in
    their place, so the ones before it are kept as they were.
    """

    def __init__(self):
        self._books = {}
        self._gates = {}
        self._deeds = []

    def set_book(self, word, book):
        """Puts a book under a word."""
        if not is_word(word):
            raise BadWord("this is no word")
        if not is_book(book):
            raise BadBook("this is no book")
        if word not in self._books and len(self._books) >= MOST_BOOKS:
            raise Full("there are so many books")
        self._do({**self._books, word: book}, self._gates)

    def drop_book(self, word):
        """Takes a book away."""
        _check_known(word, self._books)
        if any(self.gate_book(name) == word for name in self._gates):
            raise InUse("a gate has this book")
        self._do(_without(self._books, word), self._gates)

    def add_gate(self, word, name, exchange):
        """Makes a gate with the book of a name."""
        if not is_word(word):
            raise BadWord("this is no word")
        _check_known(name, self._books)
        if not is_exchange(exchange):
            raise BadExchange("this is no exchange")
        if word in self._gates:
            raise Taken("there is such a gate")
        if len(self._gates) >= MOST_GATES:
            raise Full("there are so many gates")
        self._put_gate(word, name, Gate(self._books[name], exchange))

    def drop_gate(self, word):
        """Takes a gate away."""
        _check_known(word, self._gates)
        self._do(self._books, _without(self._gates, word))

    def set_gate(self, word, name):
        """Puts the book of a name in a gate."""
        gate = self.gate(word)
        _check_known(name, self._books)
        gate.set_book(self._books[name])
        self._put_gate(word, name, gate)

    def receive(self, word, interface, row):
        """Lets a gate receive a byte row, and tells the result."""
        gate = self.gate(word)
        result = gate.receive(interface, row)
        self._put_gate(word, self._gates[word][0], gate)
        return result

    def forget(self, word, key):
        """Forgets a talk of a gate."""
        gate = self.gate(word)
        gate.forget(key)
        self._put_gate(word, self._gates[word][0], gate)

    def undo(self):
        """Takes back the last deed that was not taken back already."""
        if not self._deeds:
            raise NothingToUndo("no deed is left")
        self._books, self._gates = self._deeds.pop()

    def _put_gate(self, word, name, gate):
        self._do(self._books, {**self._gates, word: (name, gate)})

    def _do(self, books, gates):
        """Puts other books and gates in the place of those that there are."""
        self._deeds.append((self._books, self._gates))
        self._books = books
        self._gates = gates

    def books(self):
        """The names of the books."""
        return sorted(self._books)

    def gates(self):
        """The names of the gates."""
        return sorted(self._gates)

    def book(self, word):
        """The book of a name."""
        _check_known(word, self._books)
        return self._books[word]

    def gate(self, word):
        """A gate as the one of a name is."""
        _check_known(word, self._gates)
        return copy_of(self._gates[word][1])

    def dump(self, word):
        """The dump of a gate."""
        _check_known(word, self._gates)
        return dumped(self._gates[word][1])

    def gate_book(self, word):
        """The name of the book of a gate, or an empty text if the gate's book has no longer this name."""
        _check_known(word, self._gates)
        name, gate = self._gates[word]
        if name in self._books and self._books[name] == gate.book():
            return name
        return ""

    def ask(self, names, others):
        """The word of the right papers for the question where two rows of books part."""
        first = tuple(self.book(name) for name in names)
        second = tuple(self.book(name) for name in others)
        return NEVER_TRUE if alike(first, second) else COMES_TRUE

    def move(self, word, name):
        """The word of the right papers for a change of a gate's book, and the keys of its talks that may break."""
        gate = self.gate(word)
        old, new = gate.book(), self.book(name)
        runs = LaneRuns(("break", old, new))
        keys = [key for key, state in gate.talks() if _may_break(KeyRuns(runs, key), state)]
        return (COMES_TRUE if breaks(old, new) else NEVER_TRUE), keys


def _check_known(word, table):
    if not is_word(word) or word not in table:
        raise Unknown("there is nothing of this name")


def _without(table, word):
    """A dict without one of its keys."""
    return {other: table[other] for other in table if other != word}


def _may_break(runs, state):
    """True if the watch of some runs comes true at a packet of a talk with a state."""
    return any(is_true for letter in runs.letters for _, _, is_true in runs.outcomes((state,), letter))
