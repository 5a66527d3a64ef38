"""Points 21.1 and 21.2: texts of programs, and programs in another order."""

import itertools
import random
import unittest

from gatewarden.compiling import compiled
from gatewarden.errors import BadLine, BadOrder
from gatewarden.machine import is_program, run_program
from gatewarden.programtexts import read_program, relinked, write_program
from tests.bookhelp import B, DECISIONS
from tests.meaninghelp import some_views
from tests.test_machine import PACKETS, random_program
from tests.texthelp import spoilt_lines

ACCEPT, DROP = ("answer", ("accept",)), ("answer", ("drop",))
ALL_LINES = [
    "byte 0 outer 1", "byte 3 inner 1500", "word 1 outer 0", "word 2 inner 8", "special 0 interface", "special 1 length", "special 2 talk", "special 3 side",
    "put 0 65535", "put 3 0", "mask 0 0", "mask 1 65535", "less 0 65535 13 14", "less 1 0 17 14", "answer accept", "answer drop", "answer refuse 0",
    "answer refuse 255",
]


def plain_line(line):
    """The instruction of a line, by tables, or None."""
    items = line.split(" ")
    numbers = [int(item) if item.isdigit() and item.isascii() and len(item) <= 10 and str(int(item)) == item else None for item in items]
    if items[0] == "answer":
        if items[1:] in (["accept"], ["drop"]):
            return ("answer", (items[1],))
        if len(items) == 3 and items[1] == "refuse" and numbers[2] is not None and numbers[2] <= 255:
            return ("answer", ("refuse", numbers[2]))
        return None
    if len(items) < 3 or numbers[1] not in (0, 1, 2, 3):
        return None
    if items[0] in ("byte", "word") and len(items) == 4 and items[2] in ("outer", "inner") and numbers[3] is not None and numbers[3] <= 1500:
        return (items[0], numbers[1], items[2], numbers[3])
    if items[0] == "special" and len(items) == 3 and items[2] in ("interface", "length", "talk", "side"):
        return (items[0], numbers[1], items[2])
    if numbers[2] is None or numbers[2] > 65535:
        return None
    if items[0] in ("put", "mask") and len(items) == 3:
        return (items[0], numbers[1], numbers[2])
    if items[0] == "less" and len(items) == 5 and None not in numbers[3:]:
        return (items[0],) + tuple(numbers[1:])
    return None


def wanted_line(text):
    """The field `line` of the error for a text, or None if it is the text of a program."""
    lines = text.split("\n")
    found = [plain_line(line) for line in lines]
    if None in found:
        return found.index(None)
    if len(found) > 200 or any(
            word == "less" and not all(k < number < len(found) for number in rest[-2:]) for k, (word, *rest) in enumerate(found)):
        return len(lines)
    return None


class Texts(unittest.TestCase):
    def check(self, lines, wanted):
        text = lines if isinstance(lines, str) else "\n".join(lines)
        self.assertEqual(wanted_line(text), wanted, text)
        try:
            found = read_program(text)
        except BadLine as error:
            self.assertEqual(error.line, wanted, text)
            return
        self.assertIsNone(wanted, text)
        self.assertIs(is_program(found), True)
        self.assertEqual(write_program(found), text)
        self.assertEqual(found, tuple(plain_line(line) for line in text.split("\n")))

    def test_example(self):
        self.assertEqual(write_program((("put", 0, 5), ("answer", ("refuse", 3)))), "put 0 5\nanswer refuse 3")
        self.assertEqual(write_program((("byte", 0, "outer", 1), ("less", 0, 17, 2, 3), ("answer", ("refuse", 3)), ACCEPT)),
                         "byte 0 outer 1\nless 0 17 2 3\nanswer refuse 3\nanswer accept")

    def test_all_instructions(self):
        self.check(ALL_LINES, None)
        self.assertEqual(read_program("\n".join(ALL_LINES))[12:15], (("less", 0, 65535, 13, 14), ("less", 1, 0, 17, 14), ACCEPT))
        for decision in DECISIONS:
            self.assertEqual(read_program(write_program((("answer", decision),))), (("answer", decision),))

    def test_there_and_back(self):
        source = random.Random(441)
        for program in [random_program(source) for _ in range(500)] + [compiled(B)]:
            self.assertEqual(read_program(write_program(program)), program)
            self.assertIs(type(read_program(write_program(program))), tuple)

    def test_lines_of_no_instruction(self):
        for line in [
            "", " ", "byte", "byte 0 outer", "byte 0 outer 1 1", "byte 0 outer 01", "byte 0 outer 1501", "byte 4 outer 1", "byte 00 outer 1", "byte -1 outer 1",
            "byte 0 Outer 1", "byte 0 middle 1", "byte outer 0 1", "byte 0 1 outer", "byte 0 outer -1", "byte 0 outer x", "byte  0 outer 1", " byte 0 outer 1",
            "byte 0 outer 1 ", "Byte 0 outer 1", "bytes 0 outer 1", "byte 0 outer 00000000001", "byte 0 outer 10000000000", "byte 0 0 1", "special 0", "special 0 kind",
            "special 0 0", "special 0 length 1", "special length 0", "special 4 length", "special 0 Length", "put 0", "put 0 65536", "put 0 -1", "put 0 05", "put 4 5",
            "put 0 5 5", "put 5", "put 0 x", "mask 0", "mask 0 65536", "mask 0 255 1", "mask 9 1", "less 0 5", "less 0 5 1", "less 0 5 1 2 3", "less 0 65536 1 2",
            "less 4 5 1 2", "less 0 5 01 2", "less 0 5 1 02", "less 0 5 -1 2", "less 0 5 1 x", "less 0 5 10000000000 1", "less 0 5 1 00000000002", "answer",
            "answer ", "answer back", "answer refuse", "answer refuse 256", "answer refuse 03", "answer refuse 3 3", "answer accept 1", "answer drop drop",
            "answer jump a", "answer mark 1", "answer count 1", "answer 0", "answer refuse -1", "accept", "0", "less", "jump 3", "0 byte outer 1", "put 0 5\t",
        ]:
            self.check([line, "answer drop"], 0)
            self.check(["answer drop", line, "answer drop"], 1)
            self.check(["answer drop", "put 0 5", line], 2)
            self.check(["answer drop", line, "x"], 1)

    def test_numbers_of_instructions(self):
        self.check(["put 0 1", "less 0 5 2 3", "answer drop", "answer accept"], None)
        for yes, no in [(0, 3), (1, 3), (2, 4), (4, 2), (3, 1), (200, 2), (2, 9999999999), (9999999999, 9999999999)]:
            self.check(["put 0 1", f"less 0 5 {yes} {no}", "answer drop", "answer accept"], 4)
        # A line that is no instruction comes first, wherever it stands.
        self.check(["put 0 1", "less 0 5 0 9", "answer drop", "answer"], 3)
        self.check(["less 0 5 0 0"], 1)

    def test_how_many_lines(self):
        self.check("", 0)
        self.check("\n", 0)
        self.check("answer drop", None)
        self.check("answer drop\n", 1)
        self.check("\nanswer drop", 0)
        self.check(["put 0 1"] * 200, None)
        self.check(["put 0 1"] * 201, 201)
        self.check(["put 0 1"] * 5000, 5000)
        self.check(["put 0 1"] * 201 + ["x"], 201)
        self.check(["less 0 1 1 199"] + ["put 0 1"] * 199, None)
        self.check(["less 0 1 1 200"] + ["put 0 1"] * 199, 200)
        self.check(["less 0 1 1 200"] + ["put 0 1"] * 200, 201)

    def test_spoilt_texts(self):
        source = random.Random(442)
        answers = {}
        for _ in range(4000):
            lines = write_program(random_program(source)).split("\n")
            if source.random() < 0.2:
                lines = list(ALL_LINES)
            for _ in range(source.choice((1, 1, 2))):
                lines = spoilt_lines(source, lines) or [""]
            text = "\n".join(lines)
            wanted = wanted_line(text)
            self.check(text, wanted)
            word = "good" if wanted is None else "end" if wanted == len(text.split("\n")) else "line"
            answers[word] = answers.get(word, 0) + 1
        self.assertGreater(min(answers.values()), 100, answers)


class Relinked(unittest.TestCase):
    PROGRAM = (("byte", 0, "outer", 8), ("less", 0, 5, 2, 4), ("put", 1, 3), DROP, ("put", 1, 4), ACCEPT)

    def bad(self, program, order):
        with self.assertRaises(BadOrder, msg=order):
            relinked(program, order)

    def test_orders(self):
        program = self.PROGRAM
        self.assertEqual(relinked(program, (0, 1, 2, 3, 4, 5)), program)
        self.assertEqual(relinked(program, (0, 1, 4, 5, 2, 3)), (program[0], ("less", 0, 5, 4, 2), program[4], ACCEPT, program[2], DROP))
        for order in [(0, 1, 2, 4, 3, 5), (0, 1, 3, 2, 4, 5), (1, 0, 2, 3, 4, 5), (0, 2, 3, 1, 4, 5), (2, 3, 4, 5, 0, 1), (2, 3, 0, 1, 4, 5), (5, 4, 3, 2, 1, 0)]:
            self.bad(program, order)

    def test_tuples_that_are_no_orders(self):
        for order in [(), (0,), (0, 1, 2, 3, 4), (0, 1, 2, 3, 4, 5, 6), (0, 1, 2, 3, 4, 4), (0, 1, 4, 5, 4, 5), (0, 1, 2, 3, 2, 3), (0, 0, 1, 2, 3, 4, 5), (1, 2, 3, 4, 5, 6), (-1, 0, 1, 2, 3, 4),
                      (0, 1, 2, 3, 4, 100), (0, 1, 2, 3, 4, 5, 5), (0, 1, 2, 3, 4, -1), (False, True, 2, 3, 4, 5), (0, 1, 2, 3, 4, "5"), (0, 1, 2, 3, 4, None)]:
            self.bad(self.PROGRAM, order)

    def test_the_last_instruction(self):
        # What goes on behind the end stands last again.
        program = (("byte", 0, "outer", 8), ("less", 0, 5, 2, 3), DROP, ("put", 0, 1))
        self.assertEqual(relinked(program, (0, 1, 2, 3)), program)
        self.bad(program, (0, 1, 3, 2))
        self.bad(program, (2, 3, 0, 1))
        self.assertEqual(relinked((("put", 0, 1),), (0,)), (("put", 0, 1),))
        self.assertEqual(relinked((DROP, ("put", 0, 1)), (0, 1)), (DROP, ("put", 0, 1)))
        self.bad((DROP, ("put", 0, 1)), (1, 0))
        self.bad((DROP, ("put", 0, 1), ("put", 1, 1)), (1, 2, 0))
        self.bad((DROP, ("put", 0, 1), ("put", 1, 1)), (0, 2, 1))

    def test_answers_and_tests_may_stand_anywhere(self):
        self.assertEqual(relinked((DROP, ACCEPT), (1, 0)), (ACCEPT, DROP))
        program = (("less", 0, 5, 1, 2), DROP, ACCEPT)
        self.assertEqual(relinked(program, (0, 2, 1)), (("less", 0, 5, 2, 1), ACCEPT, DROP))
        self.bad(program, (1, 0, 2))
        self.bad(program, (1, 2, 0))

    def test_against_the_words(self):
        source = random.Random(443)
        counts = {True: 0, False: 0}
        programs = [small_program(source) for _ in range(150)]
        for program in programs:
            for order in itertools.permutations(range(len(program))):
                wanted = plain_relinked(program, order)
                counts[wanted is not None] += 1
                if wanted is None:
                    self.bad(program, order)
                    continue
                found = relinked(program, order)
                self.assertEqual(found, wanted)
                if order[0] == 0:
                    for packet in source.sample(PACKETS, 2):
                        view = source.choice(some_views(packet))
                        one, other = run_program(program, packet, view), run_program(found, packet, view)
                        if one[0] == "harm":
                            one = one[:2] + (order.index(one[2]),)
                        self.assertEqual(one, other)
        self.assertGreater(min(counts.values()), 300, counts)

    def test_arguments_stay(self):
        program, order = self.PROGRAM, (0, 1, 4, 5, 2, 3)
        relinked(program, order)
        self.assertEqual((program, order), (Relinked.PROGRAM, (0, 1, 4, 5, 2, 3)))


def small_program(source):
    many = source.randint(1, 5)
    found = []
    for k in range(many):
        choices = [ACCEPT, DROP, DROP, ("put", source.randrange(2), 3)]
        if k < many - 1:
            choices += [("less", 0, 5, source.randint(k + 1, many - 1), source.randint(k + 1, many - 1))] * 3
        found.append(source.choice(choices))
    return tuple(found)


def plain_relinked(program, order):
    """Point 21.2 for an order that has each number once, or None."""
    behind = {number: other for number, other in zip(order, order[1:])}
    found = []
    for number in order:
        word, *rest = program[number]
        if word == "less":
            found.append((word, *rest[:2], order.index(rest[2]), order.index(rest[3])))
            continue
        if word != "answer" and behind.get(number) != (number + 1 if number + 1 < len(program) else None):
            return None
        found.append(program[number])
    return tuple(found) if is_program(tuple(found)) else None


if __name__ == "__main__":
    unittest.main()
