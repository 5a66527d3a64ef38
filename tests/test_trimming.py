"""Points 14.2 and 14.3: programs that are trimmed, and their longest ways."""

import random
import unittest

from gatewarden.compiling import compiled
from gatewarden.machine import is_program, run_program
from gatewarden.trimming import longest_run, trimmed
from tests.bookhelp import B, ends_in
from tests.meaninghelp import packet_near, some_views
from tests.test_machine import PACKETS, random_program, seen

ACCEPT, DROP = ("answer", ("accept",)), ("answer", ("drop",))
REFUSE = ("answer", ("refuse", 3))
LOAD = ("byte", 0, "outer", 8)


def leads(program, k):
    instruction = program[k]
    if instruction[0] == "answer":
        return []
    return list(instruction[3:]) if instruction[0] == "less" else [k + 1]


def without(program, k):
    found = []
    for instruction in program[:k] + program[k + 1:]:
        if instruction[0] == "less":
            instruction = instruction[:3] + tuple(lead - (lead > k) for lead in instruction[3:])
        found.append(instruction)
    return tuple(found)


def dead(program, k):
    reached, waiting = set(), [0]
    while waiting:
        here = waiting.pop()
        if here not in reached and here < len(program):
            reached.add(here)
            waiting.extend(leads(program, here))
    return None if k in reached else without(program, k)


def ahead(program, k):
    if program[k][0] != "less":
        return None
    word, at, number, yes, no = program[k]
    target = program[yes]
    if target[:2] == ("less", at) and target[2] >= number:
        return program[:k] + ((word, at, number, target[3], no),) + program[k + 1:]
    target = program[no]
    if target[:2] == ("less", at) and target[2] <= number:
        return program[:k] + ((word, at, number, yes, target[4]),) + program[k + 1:]
    return None


def idle(program, k):
    if program[k][0] not in ("put", "special") or k + 1 == len(program):
        return None
    behind = program[k + 1]
    if behind[0] in ("byte", "word", "special", "put") and behind[1] == program[k][1]:
        return without(program, k)
    return None


def twice(program, k):
    if program[k][0] != "answer" or program[k] not in program[:k] or program[k - 1][0] not in ("less", "answer"):
        return None
    first = program.index(program[k])
    found = []
    for i, instruction in enumerate(program):
        if instruction[0] == "less" and k in instruction[3:]:
            if i > first:
                return None
            instruction = instruction[:3] + tuple(first if lead == k else lead for lead in instruction[3:])
        found.append(instruction)
    return without(tuple(found), k)


def plain_trimmed(program, told=None):
    """Point 14.2 step by step; the names of the steps are told to a list."""
    while True:
        for step in (dead, ahead, idle, twice):
            ways = [other for k in range(len(program)) if (other := step(program, k)) is not None]
            if ways:
                program = ways[0]
                if told is not None:
                    told.append(step.__name__)
                break
        else:
            return program


def all_ways(program, k=0):
    """The lengths of all ways from an instruction on."""
    if k == len(program):
        return {0}
    found = {1 + rest for lead in leads(program, k) for rest in all_ways(program, lead)}
    return found or {1}


class Trimmed(unittest.TestCase):
    def check(self, program, wanted):
        self.assertIs(is_program(program), True)
        self.assertEqual(trimmed(program), wanted)
        self.assertEqual(plain_trimmed(program), wanted)

    def test_nothing_to_do(self):
        for program in [(ACCEPT,), (LOAD, ACCEPT), (LOAD, ("less", 0, 5, 2, 3), ACCEPT, DROP), (("put", 0, 1),), (("put", 0, 1), ("put", 1, 1), ACCEPT),
                        (LOAD, LOAD, ACCEPT), (("put", 0, 1), ("mask", 0, 1), ("put", 0, 2), ACCEPT), (LOAD, ("less", 0, 5, 3, 2), LOAD, ACCEPT)]:
            self.check(program, program)

    def test_dead(self):
        self.check((ACCEPT, DROP), (ACCEPT,))
        self.check((ACCEPT, ACCEPT, ACCEPT), (ACCEPT,))
        self.check((ACCEPT, ("put", 0, 1), ("less", 0, 4, 3, 4), DROP, REFUSE), (ACCEPT,))
        self.check((LOAD, ("less", 0, 5, 3, 4), DROP, ACCEPT, REFUSE), (LOAD, ("less", 0, 5, 2, 3), ACCEPT, REFUSE))
        self.check((LOAD, ("less", 0, 5, 3, 3), DROP, ACCEPT, REFUSE), (LOAD, ("less", 0, 5, 2, 2), ACCEPT))
        # What stands behind the last way to it is dead too, though it goes on.
        self.check((LOAD, ("less", 0, 5, 4, 5), LOAD, ("put", 1, 1), ACCEPT, DROP), (LOAD, ("less", 0, 5, 2, 3), ACCEPT, DROP))

    def test_ahead_by_yes(self):
        for number, wanted in [(5, True), (6, True), (4, False)]:
            program = (LOAD, ("less", 0, 5, 2, 5), ("less", 0, number, 3, 4), ACCEPT, DROP, ("less", 0, 9, 3, 4))
            if wanted:
                self.check(program[:5] + (("less", 0, 9, 6, 7), ACCEPT, REFUSE),
                           (LOAD, ("less", 0, 5, 2, 3), ACCEPT, ("less", 0, 9, 4, 5), ACCEPT, REFUSE))
            else:
                program = program[:5] + (("less", 0, 9, 6, 7), ACCEPT, REFUSE)
                self.check(program, program)

    def test_ahead_by_no(self):
        for number, wanted in [(5, True), (4, True), (6, False)]:
            program = (LOAD, ("less", 0, 5, 5, 2), ("less", 0, number, 3, 4), ACCEPT, DROP, REFUSE)
            self.check(program, (LOAD, ("less", 0, 5, 3, 2), DROP, REFUSE) if wanted else program)

    def test_ahead_of_other_registers(self):
        program = (LOAD, ("byte", 1, "outer", 9), ("less", 0, 5, 3, 4), ("less", 1, 5, 5, 6), ("less", 1, 5, 5, 7), ACCEPT, DROP, REFUSE)
        self.check(program, program)

    def test_ahead_many_times(self):
        program = (LOAD,) + tuple(("less", 0, 9, k + 1, 20) for k in range(1, 20)) + (ACCEPT, DROP)
        self.check(program, (LOAD, ("less", 0, 9, 2, 2), ACCEPT))
        program = (LOAD,) + tuple(("less", 0, 9 + k, k + 1, 20) for k in range(1, 20)) + (ACCEPT,)
        self.check(program, (LOAD, ("less", 0, 10, 2, 2), ACCEPT))
        # The second one may lead past more than the first one does.
        program = (LOAD, ("less", 0, 5, 2, 6), ("less", 0, 9, 3, 6), ("less", 0, 7, 4, 6), ("less", 0, 4, 5, 6), ACCEPT, DROP)
        self.check(program, (LOAD, ("less", 0, 5, 2, 4), ("less", 0, 4, 3, 4), ACCEPT, DROP))

    def test_idle(self):
        for first in (("put", 0, 5), ("special", 0, "talk")):
            for behind in (("byte", 0, "outer", 8), ("word", 0, "outer", 8), ("special", 0, "side"), ("put", 0, 1)):
                self.check((first, behind, ACCEPT), (behind, ACCEPT))
                other = behind[:1] + (1,) + behind[2:]
                self.check((first, other, ACCEPT), (first, other, ACCEPT))
            for behind in (("mask", 0, 1), ("less", 0, 1, 2, 2), ACCEPT):
                self.check((first, behind, DROP)[:2 + (behind != ACCEPT)], (first, behind, DROP)[:2 + (behind != ACCEPT)])
            self.check((first,), (first,))
        for first in (LOAD, ("word", 0, "outer", 8), ("mask", 0, 1)):
            program = (("put", 0, 1), first, ("put", 0, 2), ACCEPT)
            self.check(program, program[first[0] != "mask":])

    def test_idle_that_is_led_to(self):
        program = (LOAD, ("less", 0, 5, 2, 3), ("put", 1, 5), ("put", 1, 6), ACCEPT)
        self.check(program, (LOAD, ("less", 0, 5, 2, 2), ("put", 1, 6), ACCEPT))
        program = (LOAD, ("less", 0, 5, 5, 3), DROP, ("put", 1, 5), ("put", 1, 6), ("put", 1, 7), ACCEPT)
        self.check(program, (LOAD, ("less", 0, 5, 2, 2), ("put", 1, 7), ACCEPT))

    def test_twice(self):
        self.check((LOAD, ("less", 0, 5, 2, 3), ACCEPT, ACCEPT), (LOAD, ("less", 0, 5, 2, 2), ACCEPT))
        self.check((LOAD, ("less", 0, 5, 2, 4), ("less", 0, 3, 3, 5), DROP, ACCEPT, ACCEPT), (LOAD, ("less", 0, 5, 2, 4), ("less", 0, 3, 3, 4), DROP, ACCEPT))
        # An answer behind what goes on stands.
        program = (LOAD, ("less", 0, 5, 2, 3), ACCEPT, LOAD, ACCEPT)
        self.check(program, program)
        # So does one to which a way leads from behind the first equal one.
        program = (LOAD, ("less", 0, 5, 2, 3), ACCEPT, ("less", 0, 9, 4, 5), ACCEPT, DROP)
        self.check(program, program)
        program = (LOAD, ("less", 0, 5, 2, 3), ACCEPT, ("less", 0, 9, 5, 4), DROP, ACCEPT)
        self.check(program, program)
        self.check((LOAD, ("less", 0, 5, 2, 3), REFUSE, ("answer", ("refuse", 4))), (LOAD, ("less", 0, 5, 2, 3), REFUSE, ("answer", ("refuse", 4))))

    def test_the_first_of_several_steps(self):
        for program, names in [
            ((LOAD, ("less", 0, 5, 2, 4), ("less", 0, 5, 5, 6), DROP, REFUSE, ACCEPT, DROP), ["dead", "ahead", "dead", "dead"]),
            ((("put", 0, 1), ("put", 0, 2), ("less", 0, 5, 3, 4), ACCEPT, ACCEPT), ["idle", "twice"]),
            ((("put", 0, 1), LOAD, ("less", 0, 5, 3, 4), ("less", 0, 6, 5, 6), REFUSE, ACCEPT, DROP), ["ahead", "dead", "dead", "idle"]),
            ((("put", 0, 1), ("put", 0, 2), ("put", 0, 3), ACCEPT), ["idle", "idle"]),
            ((ACCEPT, ACCEPT, DROP, DROP), ["dead"] * 3),
        ]:
            told = []
            found = plain_trimmed(program, told)
            self.assertEqual(told, names)
            self.check(program, found)

    def test_steps_that_open_others(self):
        # The idle one stood between a test and the one that it settles.
        program = (LOAD, ("less", 0, 5, 2, 5), ("put", 1, 3), ("put", 1, 4), ("less", 0, 6, 5, 6), ACCEPT, DROP)
        self.check(program, plain_trimmed(program))
        # The first of two equal answers falls, and the test behind it comes nearer.
        program = (LOAD, ("less", 0, 5, 3, 2), DROP, ("special", 1, "talk"), ("special", 1, "side"), ("less", 1, 1, 6, 7), DROP, ACCEPT)
        told = []
        self.check(program, plain_trimmed(program, told))
        self.assertEqual(told, ["idle"])

    def test_answers_alone(self):
        for many in range(1, 6):
            self.check((ACCEPT,) * many, (ACCEPT,))
            self.check((DROP, ACCEPT) * many, (DROP,))
        self.check((ACCEPT,) * 200, (ACCEPT,))

    def test_by_chance(self):
        source = random.Random(351)
        steps = []
        for _ in range(3000):
            program = random_program(source)
            self.check(program, plain_trimmed(program, steps))
        for _ in range(1500):
            program = long_program(source)
            found = plain_trimmed(program, steps)
            self.check(program, found)
            self.assertIs(is_program(found), True)
        for name in ("dead", "ahead", "idle", "twice"):
            self.assertGreater(steps.count(name), 40, name)

    def test_does_the_same(self):
        source = random.Random(352)
        for _ in range(600):
            program = source.choice((random_program, long_program))(source)
            found = trimmed(program)
            for packet in source.sample(PACKETS, 4):
                view = source.choice(some_views(packet))
                one, other = run_program(program, packet, view), run_program(found, packet, view)
                self.assertEqual(one[:2], other[:2])
                if one[0] == "answer":
                    self.assertLessEqual(other[2], one[2])

    def test_compiled_programs(self):
        source = random.Random(353)
        program = compiled(B)
        found = trimmed(program)
        self.assertEqual(found, plain_trimmed(program))
        for _ in range(100):
            packet = packet_near(source, ends_in(B))
            for view in some_views(packet):
                self.assertEqual(run_program(program, packet, view)[:2], run_program(found, packet, view)[:2])

    def test_long_programs(self):
        program = (LOAD,) + tuple(("less", 0, 9, k + 1, 199) for k in range(1, 199)) + (ACCEPT,)
        self.check(program, (LOAD, ("less", 0, 9, 2, 2), ACCEPT))
        program = (("put", 0, 1),) * 199 + (ACCEPT,)
        self.assertEqual(trimmed(program), (("put", 0, 1), ACCEPT))
        program = (LOAD,) + tuple(("less", 0, k, 199 - k % 3, k + 1) for k in range(1, 197)) + (DROP, ACCEPT, REFUSE)
        self.assertIs(is_program(program), True)
        self.check(program, program[:197] + plain_trimmed(program)[197:])


def long_program(source):
    """A program of many tests of few registers and few answers, so that steps open others."""
    many = source.randint(3, 16)
    found = []
    for k in range(many):
        choices = [source.choice((ACCEPT, DROP)), ("put", source.randrange(2), source.randrange(4)), ("special", 0, "talk"), LOAD]
        if k < many - 1:
            number = source.randint(3, 5)
            leads_to = [min(many - 1, k + source.choice((1, 1, 2, 3, source.randint(1, many)))) for _ in range(2)]
            choices += [("less", source.choice((0, 0, 1)), number, *leads_to)] * 5
        found.append(source.choice(choices))
    return tuple(found)


class LongestRun(unittest.TestCase):
    def test_plain_programs(self):
        for program, wanted in [
            ((ACCEPT,), 1), ((LOAD,), 1), ((LOAD, ACCEPT), 2), ((LOAD, LOAD), 2), ((ACCEPT, LOAD, LOAD, LOAD), 1),
            ((LOAD, ("less", 0, 5, 2, 4), LOAD, ACCEPT, DROP), 4), ((LOAD, ("less", 0, 5, 4, 2), LOAD, ACCEPT, DROP), 4),
            ((LOAD, ("less", 0, 5, 2, 3), ACCEPT, LOAD), 3), ((LOAD, ("less", 0, 5, 2, 3), ACCEPT, LOAD, LOAD), 4),
            ((("put", 0, 1), ("less", 0, 5, 3, 2), LOAD, ACCEPT), 4), ((LOAD,) * 200, 200), ((ACCEPT,) * 200, 1),
        ]:
            self.assertIs(is_program(program), True)
            self.assertEqual(longest_run(program), wanted, program)

    def test_ways_that_no_packet_goes(self):
        program = (("put", 0, 1), ("less", 0, 5, 5, 2), LOAD, LOAD, LOAD, ACCEPT)
        self.assertEqual(longest_run(program), 6)
        self.assertEqual(run_program(program, PACKETS[0], seen(PACKETS[0]))[2], 3)

    def test_against_all_ways(self):
        source = random.Random(354)
        for _ in range(800):
            program = source.choice((random_program, long_program))(source)
            self.assertEqual(longest_run(program), max(all_ways(program)), program)

    def test_many_ways(self):
        program = tuple(("less", 0, 5, k + 1, min(k + 2, 199)) for k in range(199)) + (ACCEPT,)
        self.assertEqual(longest_run(program), 200)


if __name__ == "__main__":
    unittest.main()
