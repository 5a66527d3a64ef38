"""A plain machine that asks the bytes of packets (points 12.1 to 12.3)."""

from gatewarden.books import is_decision
from gatewarden.packets import GREATEST_LENGTH, options_end, write_packet
from gatewarden.shapes import first_text, is_number
from gatewarden.views import FIELDS

MOST_INSTRUCTIONS = 200
MOST_HELD = 4
NUMBER_TOP = 65535

BASES = ("outer", "inner")
SPECIALS = ("interface", "length", "side", "talk")

# The bytes that no program may load: from the beginning, and for each kind from behind the options.
CLOSED = (2, 3, 5, 6, 7)
CLOSED_BEHIND = {6: (5, 6, 7), 17: (4, 5), 1: (2, 3)}


def is_program(value):
    """True if any value is a program."""
    if type(value) != tuple or not 1 <= len(value) <= MOST_INSTRUCTIONS:
        return False
    return all(is_instruction(value[k], k, len(value)) for k in range(len(value)))


def is_instruction(value, number, count):
    """True if any value is an instruction that may have a number in a program of so many."""
    word = first_text(value)
    if word == "answer":
        return len(value) == 2 and is_decision(value[1])
    if word == "" or len(value) < 3 or not is_number(value[1], 0, MOST_HELD - 1):
        return False
    if word in ("byte", "word"):
        return len(value) == 4 and _is_one_of(value[2], BASES) and is_number(value[3], 0, GREATEST_LENGTH)
    if word == "special":
        return len(value) == 3 and _is_one_of(value[2], SPECIALS)
    if not is_number(value[2], 0, NUMBER_TOP):
        return False
    if word == "less":
        return len(value) == 5 and all(is_number(other, number + 1, count - 1) for other in value[3:])
    return word in ("put", "mask") and len(value) == 3


def _is_one_of(value, texts):
    """True if any value is one of some texts."""
    return type(value) == str and value in texts


def is_closed(kind, end, number):
    """True if the byte with a number is closed, in a packet of a kind whose options end at some number."""
    return number in CLOSED or number - end in CLOSED_BEHIND.get(kind, ())


def run_program(program, packet, view):
    """What a program does with a packet and its view: `answer`, the decision and how many instructions; or `harm`."""
    row = write_packet(packet)
    held = [None] * MOST_HELD
    done = 0
    k = 0
    while k < len(program):
        instruction = program[k]
        done += 1
        if instruction[0] == "answer":
            return ("answer", instruction[1], done)
        last = k
        if instruction[0] == "less":
            _, at, number, yes, no = instruction
            if held[at] is None:
                return ("harm", "unset", k)
            k = yes if held[at] < number else no
            continue
        harm, number = _loaded(instruction, held, row, view)
        if harm:
            return ("harm", harm, k)
        held[instruction[1]] = number
        k += 1
    return ("harm", "end", last)


def _loaded(instruction, held, row, view):
    """The name of the harm that an instruction does, or an empty text, and the number that it loads."""
    word = instruction[0]
    if word in ("byte", "word"):
        return _loaded_bytes(instruction, row)
    if word == "special":
        return "", view[FIELDS.index(instruction[2])]
    _, at, number = instruction
    if word == "put":
        return "", number
    if held[at] is None:
        return "unset", None
    return "", held[at] & number


def _loaded_bytes(instruction, row):
    """The name of the harm that a `byte` or `word` does, or an empty text, and the number that it loads."""
    word, _, base, offset = instruction
    end = options_end(row[0])
    start = offset if base == "outer" else end + offset
    total = 0
    for number in range(start, start + (2 if word == "word" else 1)):
        if number >= len(row):
            return "outside", None
        if is_closed(row[1], end, number):
            return "closed", None
        total = 256 * total + row[number]
    return "", total
