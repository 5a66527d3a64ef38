"""Points 12.1 to 12.3: the plain machine."""

import random
import unittest

from gatewarden.machine import is_program, run_program
from gatewarden.packets import is_packet, write_packet
from gatewarden.talks import view_of
from gatewarden.views import FIELDS, is_sight, sight_of
from tests.bookhelp import DECISIONS
from tests.helpers import Trap, nested, odd_values, resized, spoilt

ACCEPT, DROP = ("accept",), ("drop",)
END = ("answer", DROP)
CLOSED = (2, 3, 5, 6, 7)
CLOSED_BEHIND = {6: (5, 6, 7), 17: (4, 5), 1: (2, 3)}

# A packet of each form, without and with options.
PACKETS = [
    (9, 4, kind, 64, options, inner, payload)
    for kind, inner in ((6, (7, 300, 5)), (17, (7, 300)), (1, (3, 9)), (0, ()), (200, ()))
    for options in ((), (1, 2), (1, 2, 3, 4, 5, 6, 7, 8)) for payload in ((), (21,), (21, 22, 23))
]


def seen(packet, interface=0, state=0):
    return view_of(sight_of(interface, packet), state)


def run(packet, *instructions):
    return run_program(instructions, packet, seen(packet))


class IsProgram(unittest.TestCase):
    def check(self, instruction, wanted):
        self.assertIs(is_program((instruction, END)), wanted, instruction)
        self.assertIs(is_program((("put", 0, 1), instruction, END, END)), wanted, instruction)
        self.assertIs(is_program((END, instruction)), wanted, instruction)

    def test_lengths(self):
        for many in (1, 2, 199, 200):
            self.assertIs(is_program((("put", 0, 1),) * many), True)
            self.assertIs(is_program((END,) * many), True)
        for many in (0, 201, 400):
            self.assertIs(is_program((("put", 0, 1),) * many), False)
            self.assertIs(is_program((END,) * many), False)

    def test_loads(self):
        for word in ("byte", "word"):
            for offset, wanted in [(0, True), (1, True), (1500, True), (1501, False), (-1, False), (True, False), (2.0, False),
                                   ("2", False), (None, False)]:
                for base in ("outer", "inner"):
                    self.check((word, 0, base, offset), wanted)
            for base in ("Outer", "", "out", "middle", None, 0, ("outer",), b"outer", Trap()):
                self.check((word, 0, base, 3), False)
            self.check((word, 0, "outer"), False)
            self.check((word, 0, "outer", 3, 3), False)
            self.check((word, 0, 3, "outer"), False)

    def test_registers(self):
        for make in [lambda r: ("byte", r, "outer", 0), lambda r: ("word", r, "inner", 0), lambda r: ("special", r, "talk"),
                     lambda r: ("put", r, 5), lambda r: ("mask", r, 5), lambda r: ("less", r, 5, 1, 1)]:
            for number, wanted in [(0, True), (1, True), (2, True), (3, True), (4, False), (-1, False), (True, False),
                                   (False, False), (1.0, False), ("1", False), (None, False), ((1,), False), (Trap(), False)]:
                self.assertIs(is_program((make(number), END)), wanted, number)

    def test_specials(self):
        for name in FIELDS + ["mark", "Talk", "", "ttl"]:
            self.check(("special", 1, name), name in ("interface", "length", "talk", "side"))
        for name in (None, 3, True, ("talk",), b"talk", Trap()):
            self.check(("special", 1, name), False)
        self.check(("special", 1), False)
        self.check(("special", 1, "talk", 0), False)

    def test_numbers(self):
        for word in ("put", "mask"):
            for number, wanted in [(0, True), (65535, True), (65536, False), (-1, False), (True, False), (5.0, False), ("5", False),
                                   (None, False), (Trap(), False)]:
                self.check((word, 2, number), wanted)
            self.check((word, 2), False)
            self.check((word, 2, 3, 4), False)
        for number, wanted in [(0, True), (65535, True), (65536, False), (-1, False), (True, False), (5.0, False), (None, False)]:
            self.assertIs(is_program((("less", 2, number, 1, 1), END)), wanted, number)

    def test_jumps(self):
        for k in range(4):
            for yes in range(-2, 7):
                for no in range(-2, 7):
                    program = (END,) * k + (("less", 0, 5, yes, no),) + (END,) * (4 - k)
                    self.assertIs(is_program(program), k < yes < 5 and k < no < 5, (k, yes, no))
        for wrong in (True, 1.0, "1", None, (1,), Trap(), 10 ** 20):
            self.assertIs(is_program((("less", 0, 5, wrong, 1), END)), False)
            self.assertIs(is_program((("less", 0, 5, 1, wrong), END)), False)
        self.assertIs(is_program((("less", 0, 5, 1), END)), False)
        self.assertIs(is_program((("less", 0, 5, 1, 1, 1), END)), False)
        self.assertIs(is_program((END, ("less", 0, 5, 2, 2))), False)

    def test_answers(self):
        for decision in DECISIONS + [("refuse", 255)]:
            self.assertIs(is_program((("answer", decision),)), True)
        for decision in [("back",), ("mark", 1), ("count", 1), ("jump", "a"), ("refuse", 256), ("refuse",), "drop", ["drop"], (), None]:
            self.assertIs(is_program((("answer", decision),)), False)
        self.assertIs(is_program((("answer",),)), False)
        self.assertIs(is_program((("answer", DROP, DROP),)), False)

    def test_other_words(self):
        for word in ("", "Byte", "load", "jump", "accept", None, 1, True, b"byte", ("byte",), Trap()):
            for rest in [(0, "outer", 1), (0, "talk"), (0, 5), (0, 5, 1, 1), (DROP,), ()]:
                self.assertIs(is_program(((word,) + rest, END)), False)
        for word, rest in [("byte", (0, 5)), ("put", (0, "talk")), ("special", (0, 5)), ("less", (0, "outer", 1)), ("answer", (0, 5)),
                           ("mask", (0, 5, 1, 1)), ("word", (DROP,))]:
            self.assertIs(is_program(((word,) + rest, END)), False)

    def test_any_value(self):
        program = (("byte", 0, "outer", 1), ("less", 0, 1, 2, 3), ("special", 1, "talk"), ("put", 2, 1), ("mask", 2, 0),
                   ("word", 3, "inner", 0), ("answer", ("refuse", 1)))
        self.assertIs(is_program(program), True)
        for value in odd_values():
            self.assertIs(is_program(value), False)
            self.assertIs(is_program((value,)), False)
            self.assertIs(is_program(program + (value,)), False)
            self.assertIs(is_program((("answer", value),)), False)
        for value in spoilt(program):
            self.assertIs(is_program(value), False, value)
        for k, instruction in enumerate(program):
            for other in resized(instruction):
                self.assertIs(is_program(program[:k] + (other,) + program[k + 1:]), False, other)
        self.assertIs(is_program(nested(program, 150)), False)


class Loads(unittest.TestCase):
    def test_example(self):
        program = (("byte", 0, "outer", 1), ("less", 0, 17, 2, 3), ("answer", ("drop",)), ("answer", ("accept",)))
        found = run_program(program, (9, 4, 17, 64, (), (7, 81), ()), (0, 17, 9, 7, 4, 81, 0, 0, 18, 1, 0))
        self.assertEqual(found, ("answer", ("accept",), 3))

    def value_of(self, packet, instruction, view=None):
        """The number that an instruction loads, told by halving; or the harm."""
        view = view or seen(packet)
        low, high = 0, 65535
        while low < high:
            middle = (low + high + 1) // 2
            result = run_program((instruction, ("less", 0, middle, 2, 3), ("answer", DROP), ("answer", ACCEPT)), packet, view)
            if result[0] == "harm":
                return result
            self.assertEqual(result[2], 3)
            if result[1] == ACCEPT:
                low = middle
            else:
                high = middle - 1
        return low

    def test_every_byte(self):
        for packet in PACKETS:
            self.assertIs(is_packet(packet), True)
            row = write_packet(packet)
            end = 12 + len(packet[4])
            closed = set(CLOSED) | {end + k for k in CLOSED_BEHIND.get(packet[2], ())}
            for number in list(range(len(row) + 3)) + [1500]:
                wanted = row[number] if number < len(row) and number not in closed else None
                harm = ("harm", "outside" if number >= len(row) else "closed", 0)
                found = self.value_of(packet, ("byte", 0, "outer", number))
                self.assertEqual(found, harm if wanted is None else wanted, (packet, number))
                if number >= end:
                    found = self.value_of(packet, ("byte", 0, "inner", number - end))
                    self.assertEqual(found, harm if wanted is None else wanted, (packet, number))

    def test_every_word(self):
        for packet in PACKETS:
            row = write_packet(packet)
            end = 12 + len(packet[4])
            closed = set(CLOSED) | {end + k for k in CLOSED_BEHIND.get(packet[2], ())}
            for number in range(len(row) + 3):
                wanted = None
                for k in (number, number + 1):
                    if wanted is None and k >= len(row):
                        wanted = ("harm", "outside", 0)
                    elif wanted is None and k in closed:
                        wanted = ("harm", "closed", 0)
                if wanted is None:
                    wanted = 256 * row[number] + row[number + 1]
                self.assertEqual(self.value_of(packet, ("word", 0, "outer", number)), wanted, (packet, number))
                if number >= end:
                    self.assertEqual(self.value_of(packet, ("word", 0, "inner", number - end)), wanted, (packet, number))

    def test_the_first_byte_that_is_not_there(self):
        packet = (9, 4, 200, 64, (), (), ())
        self.assertEqual(run(packet, ("byte", 0, "outer", 11), END), ("answer", DROP, 2))
        self.assertEqual(run(packet, ("byte", 0, "outer", 12), END), ("harm", "outside", 0))
        self.assertEqual(run(packet, ("byte", 0, "inner", 0), END), ("harm", "outside", 0))
        self.assertEqual(run(packet, ("word", 0, "outer", 10), END), ("answer", DROP, 2))
        self.assertEqual(run(packet, ("word", 0, "outer", 11), END), ("harm", "outside", 0))
        full = (9, 4, 200, 64, (), (), (3,) * 1488)
        self.assertEqual(run(full, ("byte", 0, "outer", 1499), END), ("answer", DROP, 2))
        self.assertEqual(run(full, ("byte", 0, "outer", 1500), END), ("harm", "outside", 0))
        self.assertEqual(run(full, ("byte", 0, "inner", 1487), END), ("answer", DROP, 2))
        self.assertEqual(run(full, ("byte", 0, "inner", 1500), END), ("harm", "outside", 0))

    def test_words_with_a_closed_and_a_missing_byte(self):
        # The sum of an asking without payload stands at its end: closed is asked before what is missing.
        packet = (9, 4, 17, 64, (), (7, 80), ())
        self.assertEqual(run(packet, ("word", 0, "outer", 17), END), ("harm", "closed", 0))
        self.assertEqual(run(packet, ("word", 0, "inner", 5), END), ("harm", "closed", 0))
        self.assertEqual(run(packet, ("word", 0, "inner", 3), END), ("harm", "closed", 0))
        self.assertEqual(run(packet, ("word", 0, "outer", 1), END), ("harm", "closed", 0))
        self.assertEqual(run(packet, ("word", 0, "outer", 4), END), ("harm", "closed", 0))
        self.assertEqual(run(packet, ("word", 0, "outer", 0), END), ("answer", DROP, 2))

    def test_specials(self):
        for packet in PACKETS:
            for interface in (0, 1):
                for state in (0, 1, -2) if packet[2] in (6, 17) else (0,):
                    view = seen(packet, interface, state)
                    for name in ("interface", "length", "talk", "side"):
                        found = self.value_of(packet, ("special", 0, name), view)
                        self.assertEqual(found, view[FIELDS.index(name)])

    def test_put_and_mask(self):
        packet = PACKETS[0]
        for number in (0, 1, 255, 256, 43690, 65535):
            self.assertEqual(self.value_of(packet, ("put", 0, number)), number)
            for mask in (0, 1, 240, 65280, 21845, 65535):
                program = (("put", 2, number), ("mask", 2, mask), ("less", 2, number & mask, 5, 3),
                           ("less", 2, min(65535, (number & mask) + 1), 4, 5), ("answer", ACCEPT), ("answer", DROP))
                found = run_program(program, packet, seen(packet))
                if number & mask < 65535:
                    self.assertEqual(found, ("answer", ACCEPT, 5))


class Runs(unittest.TestCase):
    def test_registers_hold_nothing_at_first(self):
        packet = PACKETS[0]
        for number in range(4):
            self.assertEqual(run(packet, ("less", number, 5, 1, 1), END), ("harm", "unset", 0))
            self.assertEqual(run(packet, ("mask", number, 5), END), ("harm", "unset", 0))
            others = tuple(("put", other, 1) for other in range(4) if other != number)
            self.assertEqual(run(packet, *others, ("mask", number, 5), END), ("harm", "unset", 3))
            self.assertEqual(run(packet, *others, ("less", number, 5, 4, 4), END), ("harm", "unset", 3))
            self.assertEqual(run(packet, ("put", number, 0), ("less", number, 5, 3, 2), END, END), ("answer", DROP, 3))

    def test_registers_stay_apart(self):
        packet = PACKETS[0]
        program = tuple(("put", k, 10 * k) for k in range(4))
        for k in range(4):
            for number, wanted in [(10 * k, ACCEPT), (10 * k + 1, DROP)]:
                found = run(packet, *program, ("less", k, number, 6, 5), ("answer", ACCEPT), ("answer", DROP))
                self.assertEqual(found, ("answer", wanted, 6))

    def test_less(self):
        packet = PACKETS[0]
        for held, number, wanted in [(5, 5, DROP), (5, 6, ACCEPT), (5, 4, DROP), (0, 0, DROP), (65535, 65535, DROP), (0, 1, ACCEPT)]:
            found = run(packet, ("put", 1, held), ("less", 1, number, 3, 2), ("answer", DROP), ("answer", ACCEPT))
            self.assertEqual(found, ("answer", wanted, 3))

    def test_behind_the_end(self):
        packet = PACKETS[0]
        self.assertEqual(run(packet, ("put", 0, 1)), ("harm", "end", 0))
        self.assertEqual(run(packet, ("put", 0, 1), ("mask", 0, 1)), ("harm", "end", 1))
        self.assertEqual(run(packet, ("put", 0, 1), ("less", 0, 5, 3, 2), END, ("special", 0, "talk")), ("harm", "end", 3))
        self.assertEqual(run(packet, ("byte", 0, "outer", 0)), ("harm", "end", 0))
        # A harm of the last instruction comes first.
        self.assertEqual(run(packet, ("byte", 0, "outer", 2)), ("harm", "closed", 0))
        self.assertEqual(run(packet, ("put", 0, 1), ("mask", 1, 1)), ("harm", "unset", 1))
        self.assertEqual(run(packet, ("put", 0, 1), ("word", 1, "outer", 1500)), ("harm", "outside", 1))

    def test_numbers_of_instructions(self):
        packet = PACKETS[0]
        for many in range(0, 200, 7):
            program = (("put", 0, 1),) * many + (END,)
            self.assertEqual(run(packet, *program), ("answer", DROP, many + 1))
        # What is jumped over is not done, and its place is still counted for a harm.
        program = (("put", 0, 1), ("less", 0, 2, 5, 2), END, END, END, ("put", 1, 1), ("answer", ("refuse", 4)))
        self.assertEqual(run(packet, *program), ("answer", ("refuse", 4), 4))
        program = (("put", 0, 1), ("less", 0, 2, 5, 2), END, END, END, ("byte", 1, "outer", 3), END)
        self.assertEqual(run(packet, *program), ("harm", "closed", 5))
        program = (("put", 0, 9), ("less", 0, 2, 5, 3), END, ("mask", 0, 8), ("answer", ACCEPT), END)
        self.assertEqual(run(packet, *program), ("answer", ACCEPT, 4))

    def test_a_harm_that_is_not_reached(self):
        packet = PACKETS[0]
        self.assertEqual(run(packet, END, ("byte", 0, "outer", 2)), ("answer", DROP, 1))
        program = (("put", 0, 0), ("less", 0, 1, 3, 2), ("mask", 3, 1), ("answer", ACCEPT))
        self.assertEqual(run(packet, *program), ("answer", ACCEPT, 3))

    def test_kinds_of_values(self):
        packet = PACKETS[0]
        for program in [(END,), (("put", 0, 1),), (("mask", 0, 1), END)]:
            self.assertIs(type(run(packet, *program)), tuple)

    def test_against_another_machine(self):
        source = random.Random(211)
        words = {}
        for _ in range(1500):
            packet = source.choice(PACKETS)
            program = random_program(source)
            self.assertIs(is_program(program), True)
            sight = sight_of(source.randrange(2), packet)
            self.assertIs(is_sight(sight), True)
            view = view_of(sight, source.choice((0, 1, -1, 2)) if packet[2] in (6, 17) else 0)
            found = run_program(program, packet, view)
            self.assertEqual(found, plain_run(program, packet, view), (program, packet, view))
            words[found[:2] if found[0] == "harm" else "answer"] = True
        self.assertEqual(len(words), 5, words)


def random_program(source):
    many = source.randint(1, 9)
    found = []
    for k in range(many):
        at = source.randrange(2)
        choices = [
            ("byte", at, source.choice(("outer", "inner")), source.choice((0, 1, 1, 4, 4, 8, 9, 2, 12, source.randint(0, 30)))),
            ("word", at, source.choice(("outer", "inner")), source.choice((0, 8, 10, source.randint(0, 30)))),
            ("special", at, source.choice(("interface", "length", "talk", "side"))), ("put", at, source.randint(0, 300)),
            ("mask", at, source.choice((0, 15, 240, 65535))), ("answer", source.choice(DECISIONS)),
        ]
        if k < many - 1:
            choices += [("less", at, source.randint(0, 300), source.randint(k + 1, many - 1), source.randint(k + 1, many - 1))] * 2
        found.append(source.choice(choices))
    return tuple(found)


def plain_run(program, packet, view):
    """The run of a program, instruction by instruction, over the rest of the program that is left."""
    row = dict(enumerate(write_packet(packet)))
    end = 12 + len(packet[4])
    for k in list(CLOSED) + [end + k for k in CLOSED_BEHIND.get(packet[2], ())]:
        row[k] = None
    held, done, k = {}, 0, 0
    while True:
        instruction = program[k]
        done += 1
        word, *rest = instruction
        if word == "answer":
            return ("answer", rest[0], done)
        if word in ("mask", "less") and rest[0] not in held:
            return ("harm", "unset", k)
        if word in ("byte", "word"):
            first = rest[2] + (end if rest[1] == "inner" else 0)
            places = [first] if word == "byte" else [first, first + 1]
            for place in places:
                if place not in row:
                    return ("harm", "outside", k)
                if row[place] is None:
                    return ("harm", "closed", k)
            held[rest[0]] = int("".join(f"{row[place]:02x}" for place in places), 16)
        elif word == "special":
            held[rest[0]] = dict(zip(FIELDS, view))[rest[1]]
        elif word == "put":
            held[rest[0]] = rest[1]
        elif word == "mask":
            held[rest[0]] &= rest[1]
        if word == "less":
            k = rest[2] if held[rest[0]] < rest[1] else rest[3]
        elif k == len(program) - 1:
            return ("harm", "end", k)
        else:
            k += 1


if __name__ == "__main__":
    unittest.main()
