"""Meaning trees for the tests: another checker, written point by point, and ways to change trees."""

import itertools

from gatewarden.byteboxes import is_byte_box
from gatewarden.talks import view_of
from gatewarden.views import FIELDS, TOPS, sight_of
from tests.bookhelp import holds
from tests.historyhelp import LEAST, NO_TALK, plain_look
from tests.test_byteboxes import CLOSED_BEHIND, FIRST, GREATEST, KIND, LENGTH
from tests.test_machine import CLOSED

WHOLE = ()
SPECIALS = [("special", name) for name in ("interface", "length", "side", "talk")]
ALL_PLACES = [("byte", k) for k in (0, 1, 4, 8, 9, 10, 11, 12, 13, 14, 15, 16, 17, 18, 20, 24, 30)] + SPECIALS
UPPER = (0, 128, 192, 224, 240, 248, 252, 254, 255)


class Ranges(dict):
    """The ranges that a byte box tells, and the greatest ones of other places."""

    def __missing__(self, place):
        return GREATEST[place]


def ranges_of(box):
    return Ranges(box)


def with_range(box, place, low, high):
    return tuple(sorted({**dict(box), place: (low, high)}.items()))


def plain_is_plain(box):
    ranges = ranges_of(box)
    low, high = ranges[KIND]
    return ranges[FIRST][0] == ranges[FIRST][1] and (low == high or not {1, 6, 17} & set(range(low, high + 1)))


def inner_begin(box):
    return 2 * (ranges_of(box)[FIRST][0] - 64)


def plain_void(box):
    """True if no packet and view lies in a plain box, by trying all that its fields leave."""
    ranges = ranges_of(box)
    kind, begin = ranges[KIND][0], inner_begin(box)
    least = LEAST.get(kind, 12) + begin - 12
    if max(least, ranges[LENGTH][0]) > ranges[LENGTH][1]:
        return True
    spans = [range(ranges[("byte", k)][0], ranges[("byte", k)][1] + 1) for k in (8, 9, 10, 11)]
    few = [sorted({span[0], span[-1]}) for span in spans]
    if not any((a, b) != (c, d) for a, b, c, d in itertools.product(*few)):
        return True
    flags = range(8) if kind == 6 else [0]
    numbers = {6: range(5), 17: range(3)}.get(kind, [0])
    for flag, number, opener, source in itertools.product(flags, numbers, ((1, 1), (2, 2)), ((1, 1), (2, 2))):
        other = (2, 2) if source == (1, 1) else (1, 1)
        sight = (0, kind) + source + other + (flag, 0, 30)
        talk = (number, opener) if number else NO_TALK
        code, side, _ = plain_look(talk, sight)
        low, high = ranges[("byte", begin + 4)] if kind == 6 else (0, 0)
        if low <= flag <= high and within(code, ranges, "talk") and within(side, ranges, "side"):
            return False
    return True


def within(number, ranges, name):
    low, high = ranges[("special", name)]
    return low <= number <= high


def plain_fields(box):
    """The box of a plain byte box, field by field."""
    ranges, begin = ranges_of(box), inner_begin(box)
    kind = ranges[KIND][0]

    def two(number):
        (a, b), (c, d) = ranges[("byte", number)], ranges[("byte", number + 1)]
        return (256 * a + c, 256 * b + d)

    found = {name: ranges[("special", name)] for name in ("interface", "length", "talk", "side")}
    found["kind"] = ranges[KIND]
    found["source"], found["destination"] = two(8), two(10)
    found["sport"] = two(begin) if kind in (6, 17) else (0, 0)
    found["dport"] = two(begin + 2) if kind in (6, 17) else (0, 0)
    found["code"] = two(begin) if kind == 1 else (0, 0)
    low, high = ranges[("byte", begin + 4)]
    found["flags"] = (min(low, 7), min(high, 7)) if kind == 6 else (0, 0)
    return [found[name] for name in FIELDS]


class Open(Exception):
    """Something is not settled."""


def plain_settled_walk(book, fields):
    """The decision of the settled walk, or Open."""
    words = [chain[0] for chain in book]
    now = {"mark": (0, 0)}

    def asked(field, a):
        low, high = now["mark"] if field == "mark" else fields[FIELDS.index(field)]
        if holds(a, low) != holds(a, high) or any(low < end <= high for pair in a for end in (pair[0], pair[1] + 1)):
            raise Open()
        return holds(a, low)

    def through(i):
        for conditions, action in book[i][1]:
            if not all(asked(field, a) for field, a in conditions):
                continue
            if action[0] == "jump":
                decision = through(words.index(action[1]))
                if decision is not None:
                    return decision
            elif action == ("back",):
                return None
            elif action[0] == "mark":
                now["mark"] = (action[1], action[1])
            elif action[0] != "count":
                return action
        return None if book[i][2] == ("back",) else book[i][2]

    return through(0)


def plain_settled_run(program, box):
    """The decision of the settled run of a program in a plain box, or the name of a harm, or Open."""
    ranges, begin = ranges_of(box), inner_begin(box)
    low, high = ranges[KIND]
    closed = set(CLOSED) | {begin + k for k in (CLOSED_BEHIND.get(low, ()) if low == high else ())}
    held, k = {}, 0
    while k < len(program):
        word, *rest = program[k]
        if word == "answer":
            return rest[0]
        if word in ("byte", "word"):
            first = rest[2] + (begin if rest[1] == "inner" else 0)
            numbers = [first] if word == "byte" else [first, first + 1]
            for number in numbers:
                if number < ranges[LENGTH][0]:
                    if number in closed:
                        return "closed"
                elif number >= ranges[LENGTH][1]:
                    return "outside"
                else:
                    raise Open()
            spans = [ranges[("byte", number)] for number in numbers]
            held[rest[0]] = [(0, 0)] * (2 - len(spans)) + spans
        elif word == "special":
            held[rest[0]] = [ranges[("special", rest[1])]]
        elif word == "put":
            held[rest[0]] = [(rest[1] // 256,) * 2, (rest[1] % 256,) * 2]
        elif rest[0] not in held:
            return "unset"
        elif word == "mask":
            spans = held[rest[0]]
            masks = [rest[1] // 256, rest[1] % 256] if len(spans) == 2 else [rest[1]]
            held[rest[0]] = [masked(span, mask) for span, mask in zip(spans, masks)]
        else:
            spans = held[rest[0]]
            least, most = [sum(span[end] * 256 ** at for at, span in enumerate(spans[::-1])) for end in (0, 1)]
            ways = {rest[2] if number < rest[1] else rest[3] for number in (least, most)}
            if len(ways) > 1:
                raise Open()
            k = ways.pop()
            continue
        k += 1
    return "end"


KNOWN = {}


def masked(span, mask):
    if (span, mask) not in KNOWN:
        found = [number & mask for number in range(span[0], span[1] + 1)]
        KNOWN[(span, mask)] = (min(found), max(found))
    return KNOWN[(span, mask)]


def plain_is_same(program, book, box):
    try:
        decision = plain_settled_run(program, box)
        return isinstance(decision, tuple) and decision == plain_settled_walk(book, plain_fields(box))
    except Open:
        return False


def plain_is_tree(program, book, tree, box=WHOLE):
    """Point 13.4 for what has the form of a tree."""
    if tree == ("void",):
        return plain_is_plain(box) and plain_void(box)
    if tree == ("same",):
        return plain_is_plain(box) and plain_is_same(program, book, box)
    if not isinstance(tree, tuple) or len(tree) != 5 or tree[0] != "cut" or tree[1] not in GREATEST:
        return False
    _, place, at, below, above = tree
    low, high = ranges_of(box)[place]
    if not isinstance(at, int) or isinstance(at, bool) or not low < at <= high:
        return False
    lower, upper = with_range(box, place, low, at - 1), with_range(box, place, at, high)
    return (
        is_byte_box(lower) and is_byte_box(upper)
        and plain_is_tree(program, book, below, lower) and plain_is_tree(program, book, above, upper))


def nodes_of(tree, box=WHOLE):
    """The ways to all nodes of a tree: triples of the steps that lead there, the box, and the tree there."""
    waiting = [((), box, tree)]
    while waiting:
        steps, part, here = waiting.pop()
        yield steps, part, here
        if here[0] == "cut":
            _, place, at, below, above = here
            low, high = ranges_of(part)[place]
            waiting.append((steps + (3,), with_range(part, place, low, at - 1), below))
            waiting.append((steps + (4,), with_range(part, place, at, high), above))


def put_at(tree, steps, other):
    """The tree with another one at the end of some steps."""
    if not steps:
        return other
    return tree[:steps[0]] + (put_at(tree[steps[0]], steps[1:], other),) + tree[steps[0] + 1:]


def restricted(tree, place, low, high):
    """A right tree for the part of a box in which a place has a range, from a right one for the box."""
    if tree[0] != "cut":
        return tree
    _, other, at, below, above = tree
    if other == place and at <= low:
        return restricted(above, place, low, high)
    if other == place and at > high:
        return restricted(below, place, low, high)
    return ("cut", other, at, restricted(below, place, low, high), restricted(above, place, low, high))


def cut_more(tree, place, at, box=WHOLE):
    """A right tree for a box, cut once more, from a right one."""
    low, high = ranges_of(box)[place]
    return ("cut", place, at, restricted(tree, place, low, at - 1), restricted(tree, place, at, high))


def cut_out(tree, box, leaf):
    """The tree in which a leaf stands for a byte box, and that is right elsewhere if the tree is right.

    The box tells the first byte and the kind if it tells what only plain boxes tell.
    """
    order = sorted(box, key=lambda item: (item[0] not in (FIRST, KIND), item[0] != LENGTH, item[0]))
    cuts = []
    for place, (low, high) in order:
        least, greatest = GREATEST[place]
        if low > least:
            cuts.append((place, low, False))
        if high < greatest:
            cuts.append((place, high + 1, True))

    def grown(rest, part, here):
        if not rest:
            return leaf
        (place, at, goes_below), rest = rest[0], rest[1:]
        low, high = ranges_of(part)[place]
        below, above = restricted(here, place, low, at - 1), restricted(here, place, at, high)
        if goes_below:
            return ("cut", place, at, grown(rest, with_range(part, place, low, at - 1), below), above)
        return ("cut", place, at, below, grown(rest, with_range(part, place, at, high), above))

    return grown(cuts, WHOLE, tree)


def some_views(packet):
    """All views of a packet."""
    numbers = {6: range(-4, 5), 17: range(-2, 3)}.get(packet[2], [0])
    return [view_of(sight_of(interface, packet), state) for interface in (0, 1) for state in numbers]


def packet_near(source, ends):
    """A packet by chance whose fields are often at or beside some ends, as random_view takes them."""
    def one(name, top):
        near = [number for end in ends[FIELDS.index(name)] for number in (end - 1, end) if number <= top] or [0]
        return source.choice((0, top, source.randint(0, top), source.choice(near), source.choice(near)))

    kind = source.choice((6, 6, 17, 17, 1, one("kind", 255)))
    ends_here = (one("source", 65535), one("destination", 65535))
    if ends_here[0] == ends_here[1]:
        ends_here = (ends_here[0], (ends_here[1] + 1) % 65536)
    inner = {6: (one("sport", 65535), one("dport", 65535), one("flags", 7)), 17: (one("sport", 65535), one("dport", 65535)),
             1: divmod(one("code", 65535), 256)}.get(kind, ())
    options = tuple(source.randrange(256) for _ in range(source.choice((0, 0, 2, 4, 6, 8))))
    least = LEAST.get(kind, 12) + len(options)
    length = max(least, one("length", 1500))
    return ends_here + (kind, source.choice((2, 64, 255)), options, inner, (source.randrange(256),) * (length - least))
