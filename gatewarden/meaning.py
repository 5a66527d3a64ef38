"""Whether programs mean books, and papers of it (points 13.2 to 13.4)."""

from gatewarden.byteboxes import FIRST, KIND, is_place, is_plain, may_tell, range_of
from gatewarden.bytefields import ByteBoxes, field_parts, field_ranges
from gatewarden.byteruns import BEGIN, ByteRuns
from gatewarden.cuts import is_walk, settled
from gatewarden.machine import run_program
from gatewarden.packets import is_packet
from gatewarden.shapes import first_text, is_number, is_tuple
from gatewarden.talks import greatest_state, view_of
from gatewarden.views import FIELDS, TOPS, sight_of
from gatewarden.walking import decide

VOID = ("void",)
SAME = ("same",)

# The ttl of a packet that comes to a book is at least this.
LEAST_TTL = 2

# Where the kinds of a box are cut so that it becomes plain: notes, streams and askings stand alone.
KIND_CUTS = (1, 2, 6, 7, 17, 18)


class Meaning:
    """A program and a book in plain byte boxes.

    Its `failing` is a packet and a view for which the program does not do what the book
    decides, as soon as one is met; what is grown behind it is of no worth.
    """

    def __init__(self, program, book):
        self.meant = book
        self.runs = ByteRuns(program)
        self.boxes = ByteBoxes()
        self.walks = {}
        self.failing = None

    def walk_in(self, told):
        """The settled walk of the book in the box of a plain byte box."""
        box = field_ranges(told)
        if box not in self.walks:
            self.walks[box] = settled(self.meant, box)
        return self.walks[box]

    def is_same(self, told, run):
        """True if a run and the walk come to their ends in a plain byte box with the same decision."""
        if run[0] != "answer":
            return False
        walk = self.walk_in(told)
        return is_walk(walk) and walk[0] == run[1]

    def grown(self, told, run):
        """A meaning tree for the box with some ranges, in which the run has come so far."""
        if self.failing is not None:
            return VOID
        cut = _form_cut(told)
        if cut is None:
            if self.boxes.is_void(told):
                return VOID
            run = self.runs.gone_on(told, run)
            cut = self._cut_of(told, run)
        if cut is None:
            if self.is_same(told, run):
                return SAME
            self.failing = self.boxes.sample(told)
            return VOID
        place, at = cut
        below, above = _cut_ranges(told, place, at)
        return ("cut", place, at, self.grown(below, run), self.grown(above, run))

    def _cut_of(self, told, run):
        """Where a plain box that is not void is cut, so that more is settled in it; or None."""
        if run[0] == "open":
            return self.runs.cut_of(told, run)
        if run[0] == "harm":
            return None
        walk = self.walk_in(told)
        if is_walk(walk):
            return None
        field, at = walk
        return self.runs.number_cut(told, field_parts(told, field), at)


def _form_cut(told):
    """Where a box is cut so that it becomes plain, or None if it is."""
    first, last = range_of(told, FIRST)
    if first < last:
        return FIRST, (first + last + 1) // 2
    low, high = range_of(told, KIND)
    cuts = [at for at in KIND_CUTS if low < at <= high]
    if is_plain(told):
        return None
    return KIND, cuts[len(cuts) // 2]


def _cut_ranges(told, place, at):
    """The ranges of a box in which the high of a place is at - 1, and in which its low is at."""
    low, high = range_of(told, place)
    return _with_range(told, place, (low, at - 1)), _with_range(told, place, (at, high))


def _with_range(told, place, numbers):
    found = {other: told[other] for other in told}
    found[place] = numbers
    return found


def meaning_paper(program, book):
    """A right meaning paper for a program and a book."""
    meaning = Meaning(program, book)
    tree = meaning.grown({}, BEGIN)
    if meaning.failing is None:
        return ("means", tree)
    packet, view = meaning.failing
    return ("fails", packet, view)


def means(program, book):
    """True if a program means a book."""
    return meaning_paper(program, book)[0] == "means"


def check_meaning(program, book, value):
    """True if any value is a right meaning paper for a program and a book."""
    word = first_text(value)
    if word == "means":
        return len(value) == 2 and _is_meaning_tree(program, book, value[1])
    if word != "fails" or len(value) != 3 or not _is_case(value[1], value[2]):
        return False
    _, packet, view = value
    result = run_program(program, packet, view)
    return result[0] == "harm" or result[1] != decide(book, view)


def _is_case(packet, view):
    """True if any two values are a packet with different addresses that is not worn, and one of its views."""
    if not is_packet(packet) or packet[0] == packet[1] or packet[3] < LEAST_TTL:
        return False
    if not is_tuple(view, len(FIELDS)) or not all(is_number(view[k], 0, TOPS[k]) for k in range(len(FIELDS))):
        return False
    sight = sight_of(view[0], packet)
    top = greatest_state(packet[2])
    return any(view == view_of(sight, state) for state in range(-top, top + 1))


def _is_meaning_tree(program, book, value):
    """True if any value is a meaning tree for a program, a book and the byte box of all."""
    meaning = Meaning(program, book)
    waiting = [({}, BEGIN, value)]
    while waiting:
        told, run, tree = waiting.pop()
        # Runs go on from where they were settled in the wider box: there nothing changes in a part of it.
        if is_plain(told):
            run = meaning.runs.gone_on(told, run)
        if _is_cut(told, tree):
            _, place, at, below, above = tree
            lower, upper = _cut_ranges(told, place, at)
            waiting.append((lower, run, below))
            waiting.append((upper, run, above))
        elif not is_plain(told) or not _is_leaf(meaning, told, run, tree):
            return False
    return True


def _is_cut(told, tree):
    """True if any value is a cut of a byte box into two, whatever its two trees are."""
    if first_text(tree) != "cut" or len(tree) != 5 or not is_place(tree[1]) or not may_tell(told, tree[1]):
        return False
    low, high = range_of(told, tree[1])
    return is_number(tree[2], low + 1, high)


def _is_leaf(meaning, told, run, tree):
    """True if any value is a right leaf for a plain byte box in which the run has come so far."""
    word = first_text(tree)
    if word not in ("void", "same") or len(tree) != 1:
        return False
    if word == "void":
        return meaning.boxes.is_void(told)
    return meaning.is_same(told, run)
