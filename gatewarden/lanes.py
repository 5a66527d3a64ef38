"""Lane boxes, and the settled runs of a watch in them (points 9.2 and 9.3)."""

from gatewarden.cuts import first_cut, is_walk, settled
from gatewarden.letters import moments_of
from gatewarden.packets import ASKING, GREATEST_LENGTH, NOTE, STREAM
from gatewarden.ranges import contains, ends_of
from gatewarden.talks import greatest_state, talk_at
from gatewarden.views import has_ports, least_length
from gatewarden.watching import Watcher

LANE_FIELDS = ("kind", "first", "firstport", "second", "secondport", "code", "length")
LANE_TOPS = (255, 65535, 65535, 65535, 65535, 65535, 1500)

# The fields of a view whose ranges a lane box tells, and for each sender where it tells them.
TOLD_FIELDS = ("kind", "source", "sport", "destination", "dport", "code", "length")
LANE_PLACES = ((0, 1, 2, 3, 4, 5, 6), (0, 3, 4, 1, 2, 5, 6))

# The other fields of a view, which the letter and the talk tell: a moment has a value for each of them.
MOMENT_FIELDS = ("interface", "flags", "talk", "side")


def whole_ranges():
    """The ranges of the lane box of all."""
    return tuple((0, top) for top in LANE_TOPS)


def sight_in(lane):
    """Any sight that lies in a lane box from the sender 0, or None."""
    kinds, first, first_port, second, second_port, code, length = lane
    ends = _unlike(first, second)
    if ends is None:
        return None
    for kind in _sample_kinds(kinds):
        fits = has_ports(kind) or (first_port[0], second_port[0]) == (0, 0)
        least = max(length[0], least_length(kind))
        if fits and (kind == NOTE or code[0] == 0) and least <= length[1]:
            return (0, kind, ends[0], first_port[0], ends[1], second_port[0], 0, code[0], least)
    return None


def _unlike(first, second):
    """Two different addresses from two ranges, or None."""
    if first[0] != second[0]:
        return first[0], second[0]
    if first[1] > first[0]:
        return first[0] + 1, second[0]
    if second[1] > second[0]:
        return first[0], second[0] + 1
    return None


def _sample_kinds(kinds):
    """The kinds of a range that are unlike all others, and the least one of the others."""
    low, high = kinds
    found = [kind for kind in (NOTE, STREAM, ASKING) if low <= kind <= high]
    others = [kind for kind in range(low, min(high, low + 3) + 1) if kind not in found]
    return found + others[:1]


def has_talk_kind(lane):
    """True if the kinds of a lane box contain one that has talks."""
    low, high = lane[0]
    return low <= STREAM <= high or low <= ASKING <= high


def is_talk_lane(lane):
    """True if a lane box has one kind, which has talks, and the whole ranges of code and length."""
    low, high = lane[0]
    return low == high and has_ports(low) and (lane[5], lane[6]) == ((0, LANE_TOPS[5]), (0, GREATEST_LENGTH))


def talk_lanes(lane, lengths):
    """The ranges in which the settled runs of a lane box of one kind with talks go, one for each range of lengths."""
    starts = [least_length(lane[0][0]), *lengths]
    highs = [start - 1 for start in lengths] + [GREATEST_LENGTH]
    return [(*lane[:5], (0, 0), (starts[k], highs[k])) for k in range(len(starts))]


def _conditions_on(book, fields):
    """All conditions of a book on some fields."""
    found = []
    for _, rules, _ in book:
        for conditions, _ in rules:
            found.extend([condition for condition in conditions if condition[0] in fields])
    return found


def _left_of(book, ranges):
    """What is left of a book to be asked in some ranges of the told fields.

    It has the rules that may be met, each as its place and what is left of its
    conditions; chains to which none of these jumps are left out.
    """
    found = []
    wanted = {book[0][0]: True}
    for i in range(len(book)):
        word, rules, _ = book[i]
        if word not in wanted:
            continue
        for k in range(len(rules)):
            conditions, action = rules[k]
            left = _left_conditions(conditions, ranges)
            if left is None:
                continue
            found.append((i, k, left))
            if action[0] == "jump":
                wanted[action[1]] = True
            elif not left and action[0] not in ("mark", "count"):
                break
    return tuple(found)


def _left_conditions(conditions, ranges):
    """The numbers of the conditions that are left to be asked, with the cut of the first one that is not settled.

    None if one before that does not hold: then the rule is not met, whatever the other fields are.
    """
    found = []
    for number in range(len(conditions)):
        field, a = conditions[number]
        if field not in TOLD_FIELDS:
            found.append((number, 0))
            continue
        low, high = ranges[TOLD_FIELDS.index(field)]
        cut = first_cut(a, low, high)
        if cut is not None:
            # The run ends here if it asks so much, so what stands behind it makes no difference.
            found.append((number, cut))
            break
        if not contains(a, low):
            return None
    return tuple(found)


class LaneRuns:
    """The settled runs of a watch, in which walks that go alike are done once.

    All that the ranges of a lane say to a book is a table from moments to settled walks.
    Each table has a number, its form: lanes with the same forms have the same runs.
    """

    def __init__(self, watch):
        watcher = Watcher(watch)
        books = []
        for book in watcher.all_books:
            if book not in books:
                books.append(book)
        self.watcher = watcher
        self.gate_count = watcher.gate_count
        # Equal books are kept once; each book of the watch has the number of its one.
        self.unlike_books = books
        self.numbers = [books.index(book) for book in watcher.all_books]
        self.others = [_conditions_on(book, MOMENT_FIELDS) for book in books]
        # The numbers at which a condition on the length changes.
        lengths = [a for book in books for _, a in _conditions_on(book, ("length",))]
        self.length_ends = ends_of(lengths, GREATEST_LENGTH)
        self.moments = {}
        self.forms = {}
        self.known_forms = {}
        self.tables = []
        self.moves = {}
        self.used = {}

    def forms_of(self, lane):
        """For both senders the forms of a lane for all books of the watch."""
        found = []
        for places in LANE_PLACES:
            ranges = [lane[place] for place in places]
            forms = [self._form(number, ranges) for number in range(len(self.unlike_books))]
            found.append(tuple(forms[number] for number in self.numbers))
        return tuple(found)

    def talk_forms(self, lane):
        """For a lane box of one kind with talks, the lengths at which it is cut, its ranges then, and their forms."""
        lengths = tuple(end for end in self.length_ends if end > least_length(lane[0][0]))
        lanes = talk_lanes(lane, lengths)
        return lengths, lanes, [self.forms_of(part) for part in lanes]

    def _form(self, number, ranges):
        """The form of the ranges of the told fields for the book with a number."""
        low, _ = ranges[0]
        kind = low if has_ports(low) else None
        key = (number, kind, _left_of(self.unlike_books[number], ranges))
        if key not in self.known_forms:
            if kind not in self.moments:
                self.moments[kind] = moments_of(low, greatest_state(low))
            moments = self.moments[kind]
            walks = self._walks(number, ranges, moments)
            form = self.forms.setdefault((kind, tuple(walks)), len(self.tables))
            if form == len(self.tables):
                self.tables.append({moments[k]: walks[k] for k in range(len(moments))})
            self.known_forms[key] = form
        return self.known_forms[key]

    def _walks(self, number, ranges, moments):
        """For each moment the settled walk through the book with a number, without what the watch does not ask."""
        known = {}
        found = []
        for moment in moments:
            answers = tuple(contains(a, moment[MOMENT_FIELDS.index(field)]) for field, a in self.others[number])
            if answers not in known:
                result = settled(self.unlike_books[number], _box(ranges, moment))
                known[answers] = self.watcher.asked_part(result) if is_walk(result) else result
            found.append(known[answers])
        return found

    def run(self, kind, forms, states, letter):
        """The lane's field and the cut that are not settled, or None; the states after it; whether it comes true.

        The forms are those of the lane. For kinds without talks the sender is 0.
        """
        sender, interface, flags = letter

        def talk_of(state):
            key = (kind, state, sender, flags)
            if key not in self.moves:
                self.moves[key] = talk_at(kind, state, sender, flags)
            return self.moves[key]

        def walk_at(i, code, side):
            form = forms[sender][i]
            moment = (interface, flags, code, side)
            self.used[(form, moment)] = True
            return self.tables[form][moment]

        opened, after, is_true = self.watcher.run(states, interface, talk_of, walk_at)
        if opened is None:
            return None, after, is_true
        field, at = opened
        place = LANE_PLACES[sender][TOLD_FIELDS.index(field)]
        return (LANE_FIELDS[place], at), after, False

    def met_places(self):
        """A dict of True for the places of the rules that were met in the runs, as far as the watch asks them."""
        walks = [self.tables[form][moment] for form, moment in self.used]
        return {place: True for result in walks if is_walk(result) for place in result[3]}


def _box(ranges, moment):
    """The box of the views of a moment in some ranges of the told fields."""
    kind, source, sport, destination, dport, note_code, length = ranges
    interface, flags, code, side = [(number, number) for number in moment]
    return (interface, kind, source, sport, destination, dport, flags, note_code, length, code, side)
