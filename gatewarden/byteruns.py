"""Settled runs of programs in plain byte boxes (point 13.3).

A register holds None or a tuple of parts: two for a greater and a lesser byte, or one. A part
is a triple `(place, masks, number)`: what a place tells, masked one time after the other, or,
without a place, a number.
"""

from gatewarden.byteboxes import KIND, LENGTH, inner_start, range_of
from gatewarden.machine import is_closed
from gatewarden.views import least_length

# A run before its first instruction: the registers hold nothing.
BEGIN = ("open", 0, (None, None, None, None))
HARM = ("harm",)


class ByteRuns:
    """The settled runs of a program; what ranges become by masks is worked out once."""

    def __init__(self, program):
        self.program = program
        self.masked = {}
        self.changes = {}

    def gone_on(self, told, run):
        """What becomes of a run that has come so far, in a plain box with some ranges.

        It is `("answer", decision)`, `("harm",)`, or `("open", k, held)` with the number of
        the instruction that is not settled and what the registers hold.
        """
        if run[0] != "open":
            return run
        _, k, registers = run
        held = list(registers)
        while k < len(self.program):
            instruction = self.program[k]
            if instruction[0] == "answer":
                return instruction
            news, result = self._done(told, instruction, held)
            if news == "open":
                return ("open", k, tuple(held))
            if news == "harm":
                return HARM
            if instruction[0] == "less":
                k = result
            else:
                held[instruction[1]] = result
                k += 1
        return HARM

    def _done(self, told, instruction, held):
        """What comes of an instruction: a word if it does harm or is not settled, and the next number or the parts."""
        word, at, what = instruction[:3]
        if word in ("byte", "word"):
            return _loaded(told, instruction)
        if word == "special":
            return "", ((("special", what), (), 0),)
        if word == "put":
            return "", ((None, (), what // 256), (None, (), what % 256))
        parts = held[at]
        if parts is None:
            return "harm", None
        if word == "mask":
            masks = (what // 256, what % 256) if len(parts) == 2 else (what,)
            return "", tuple(_with_mask(parts[k], masks[k]) for k in range(len(parts)))
        lows, highs = 0, 0
        for part in parts:
            low, high = self._part_range(told, part)
            lows, highs = 256 * lows + low, 256 * highs + high
        yes, no = instruction[3:]
        # Both ways may lead to the same instruction.
        if (lows < what) != (highs < what) and yes != no:
            return "open", None
        return "", yes if lows < what else no

    def _part_range(self, told, part):
        """The range of the numbers that a part can be."""
        place, masks, number = part
        if place is None:
            return number, number
        numbers = range_of(told, place)
        for mask in masks:
            key = (numbers, mask)
            if key not in self.masked:
                found = [one & mask for one in range(numbers[0], numbers[1] + 1)]
                self.masked[key] = (min(found), max(found))
            numbers = self.masked[key]
        return numbers

    def cut_of(self, told, run):
        """A place and a number at which a box that is not void may be cut, so that a run in it comes further."""
        _, k, held = run
        instruction = self.program[k]
        if instruction[0] == "less":
            return self.number_cut(told, held[instruction[1]], instruction[2])
        low, _ = range_of(told, LENGTH)
        return _length_cut(told, max(low, _first_byte(told, instruction)))

    def number_cut(self, told, parts, number):
        """A place and a number at which a box may be cut, so that less of what parts can be is below a number.

        A byte of them that the box may not tell yet is known to be there above the cut.
        """
        if len(parts) == 1:
            return self._part_cut(told, parts[0], (number,))
        low, high = self._part_range(told, parts[0])
        if low < high:
            return self._part_cut(told, parts[0], (number // 256, number // 256 + 1))
        return self._part_cut(told, parts[1], (number % 256,))

    def _part_cut(self, told, part, bounds):
        """A place and a number to cut, so that more is known of how many bounds a part reaches."""
        place, masks, _ = part
        if place[0] == "byte" and place[1] >= range_of(told, LENGTH)[0]:
            return _length_cut(told, place[1])
        low, high = range_of(told, place)
        key = (low, high, masks, bounds)
        if key not in self.changes:
            reached = [_bounds_reached(number, masks, bounds) for number in range(low, high + 1)]
            self.changes[key] = [low + k for k in range(1, len(reached)) if reached[k] != reached[k - 1]]
        changes = self.changes[key]
        if changes:
            return place, changes[len(changes) // 2]
        # Masked ranges tell too little here, so the box is cut until they are small enough.
        return place, (low + high + 1) // 2


def _with_mask(part, mask):
    place, masks, number = part
    if place is None:
        return None, (), number & mask
    return place, (*masks, mask), 0


def _bounds_reached(number, masks, bounds):
    """How many of some bounds a masked number is not below."""
    for mask in masks:
        number = number & mask
    return sum(1 for bound in bounds if number >= bound)


def _first_byte(told, instruction):
    """The number of the first byte that an instruction loads."""
    _, _, base, offset = instruction
    return offset if base == "outer" else inner_start(told) + offset


def _loaded(told, instruction):
    """What comes of a `byte` or `word`: a word if it does harm or is not settled, and the parts."""
    low, high = range_of(told, LENGTH)
    kind, _ = range_of(told, KIND)
    start = inner_start(told)
    first = _first_byte(told, instruction)
    parts = []
    for number in range(first, first + (2 if instruction[0] == "word" else 1)):
        if number >= low:
            return ("open" if number < high else "harm"), None
        if is_closed(kind, start, number):
            return "harm", None
        parts.append((("byte", number), (), 0))
    if len(parts) == 1:
        parts = [(None, (), 0), *parts]
    return "", tuple(parts)


def _length_cut(told, number):
    """Where the length is cut so that the byte with a number, which is not known to be there, is known above."""
    kind, _ = range_of(told, KIND)
    # Shorter packets of the kind there are none, so all of their bytes are known at once.
    least = inner_start(told) + least_length(kind) - least_length(0)
    return LENGTH, max(number + 1, least)
