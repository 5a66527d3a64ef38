"""Texts of programs, and programs in another order (points 21.1 and 21.2)."""

from gatewarden.errors import BadLine, BadOrder
from gatewarden.machine import is_instruction, is_program
from gatewarden.numerals import read_items, write_items
from gatewarden.shapes import is_number

# Numbers in texts are less than this.
NUMERAL_LIMIT = 10000000000


def write_program(program):
    """The text of a program."""
    return "\n".join([_write_instruction(instruction) for instruction in program])


def _write_instruction(instruction):
    if instruction[0] == "answer":
        return write_items(("answer", *instruction[1]))
    return write_items(instruction)


def _read_instruction(line):
    """The instruction that a line tells, or what is none."""
    items = read_items(line.split(" "))
    if items[0] == "answer":
        return ("answer", items[1:])
    return items


def read_program(text):
    """The program that has a text; BadLine with the first line that is no instruction if there is none."""
    lines = text.split("\n")
    found = []
    for k in range(len(lines)):
        instruction = _read_instruction(lines[k])
        # Whether the numbers of a `less` are in the program is asked at the end.
        if not is_instruction(instruction, -1, NUMERAL_LIMIT):
            raise BadLine(k)
        found.append(instruction)
    if not is_program(tuple(found)):
        raise BadLine(len(lines))
    return tuple(found)


def relinked(program, order):
    """The program with its instructions in another order, which leads on as before; BadOrder if it cannot."""
    count = len(program)
    if len(order) != count or not all(is_number(number, 0, count - 1) for number in order):
        raise BadOrder("the order has not each number once")
    places = {order[k]: k for k in range(count)}
    if len(places) < count:
        raise BadOrder("the order has not each number once")
    found = []
    for k in range(count):
        number = order[k]
        instruction = program[number]
        if instruction[0] == "less":
            instruction = (*instruction[:3], places[instruction[3]], places[instruction[4]])
        # Behind the last instruction stands none, before and after.
        elif instruction[0] != "answer" and places.get(number + 1, count) != k + 1:
            raise BadOrder("what goes on together is torn apart")
        found.append(instruction)
    if not is_program(tuple(found)):
        raise BadOrder("a way leads back")
    return tuple(found)
