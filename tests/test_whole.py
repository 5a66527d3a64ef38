"""Points 0.1 to 0.3: what the document promises over the whole program."""

import copy
import importlib
import random
import unittest

from gatewarden import errors
from gatewarden.booktexts import read_book, read_exchange, read_sight, write_book, write_exchange, write_sight
from gatewarden.cases import cases_of, flattened
from gatewarden.closing import check_paper, paper_of
from gatewarden.compiling import compiled
from gatewarden.console import Console
from gatewarden.desk import Desk
from gatewarden.dumps import dumped, loaded
from gatewarden.errors import GateError, TooLong
from gatewarden.gate import Gate
from gatewarden.journals import recorded
from gatewarden.machine import run_program
from gatewarden.meaning import check_meaning, meaning_paper
from gatewarden.packets import read_packet, write_packet
from gatewarden.plans import led, plan_of
from gatewarden.programtexts import read_program, relinked, write_program
from gatewarden.questions import alike
from gatewarden.ranges import read_set, write_set
from gatewarden.trimming import longest_run, trimmed
from gatewarden.walking import decide
from gatewarden.views import FIELDS, packet_of, sight_of
from tests.bookhelp import B, ends_in, holds, plain_walk, random_book, random_fields
from tests.helpers import odd_values
from tests.historyhelp import KEEPER, random_history
from tests.meaninghelp import packet_near, some_views
from tests.test_booktexts import plain_text
from tests.test_gate import ALL, EXCHANGE, asking, stream
from tests.test_interface import CLASSES, INTERFACE
from tests.texthelp import any_book, any_set

KEY = (17, (4, 80), (9, 7))
SIGHT = (0, 6, 9, 7, 4, 80, 1, 0, 20)
LINE = (("main", (((("source", ((9, 9),)),), ("accept",)),), ("drop",)),)


class AllDecideAlike(unittest.TestCase):
    def test_books_plans_programs_and_cases(self):
        source = random.Random(451)
        done = programs = flat = 0
        while done < 120:
            book = random_book(source, 8, random_fields(source, source.randint(2, 5), 3))
            plan, cases = plan_of(book), cases_of(book)
            if len(cases) == 1 and source.random() < 0.9:
                continue
            done += 1
            books = [book, read_book(write_book(book))]
            told = []
            try:
                told = [compiled(book), trimmed(compiled(book))]
                told.append(read_program(write_program(told[1])))
                programs += 1
            except TooLong:
                pass
            try:
                books.append(flattened(book))
                flat += 1
            except TooLong:
                pass
            for _ in range(12):
                packet = packet_near(source, ends_in(book))
                for view in source.sample(some_views(packet), 2):
                    wanted = plain_walk(book, view)[0]
                    self.assertEqual([decide(other, view) for other in books], [wanted] * len(books))
                    self.assertEqual(led(plan, view), wanted)
                    holding = [decision for conditions, decision in cases if all(holds(a, view[FIELDS.index(field)]) for field, a in conditions)]
                    self.assertEqual(holding, [wanted])
                    for program in told:
                        self.assertEqual(run_program(program, packet, view)[:2], ("answer", wanted))
                        self.assertLessEqual(run_program(program, packet, view)[2], longest_run(program))
        self.assertGreater(min(programs, flat), 30)

    def test_papers_that_are_taken_tell_the_truth(self):
        source = random.Random(452)
        for _ in range(25):
            book = random_book(source, 5, random_fields(source, 2, 2))
            other = random_book(source, 5, random_fields(source, 2, 2))
            for one, two in ((book, other), (book, read_book(write_book(book)))):
                watch = ("part", (one,), (two,))
                paper = paper_of(watch)
                self.assertIs(check_paper(watch, paper), True)
                self.assertEqual(paper[0] == "closed", alike((one,), (two,)))
                try:
                    program = compiled(two)
                except TooLong:
                    continue
                # A program that means the other book fails for this one if a view parts them, and only then.
                paper = meaning_paper(program, one)
                self.assertIs(check_meaning(program, one, paper), True)
                if paper[0] == "fails":
                    _, _, view = paper
                    self.assertNotEqual(decide(one, view), decide(two, view))
                else:
                    self.assertIs(alike((one,), (two,)), True)

    def test_gates_and_desks_and_consoles(self):
        source = random.Random(453)
        for _ in range(15):
            book = random_book(source, 6)
            gate, desk, console = Gate(book, EXCHANGE), Desk(), Console()
            desk.set_book("book", book)
            desk.add_gate("gate", "book", EXCHANGE)
            deeds = []
            for sight in random_history(source, [book], 10):
                row = write_packet(packet_of(sight))
                result = gate.receive(sight[0], row)
                self.assertEqual(desk.receive("gate", sight[0], row), result)
                deeds.append(("in", sight[0], row))
                self.assertEqual(recorded(book, EXCHANGE, deeds)[2][-1], deeds[-1] + (result,))
            self.assertEqual(desk.dump("gate"), dumped(gate))
            self.assertEqual(console.enter("dump gate"), ["error Unknown"])


class WrittenAndRead(unittest.TestCase):
    def test_all_texts(self):
        source = random.Random(454)
        for _ in range(100):
            a = any_set(source, 65535)
            self.assertEqual(read_set(write_set(a)), a)
            book = any_book(source)
            self.assertEqual(read_book(write_book(book)), book)
            self.assertEqual(write_book(book), plain_text(book))
            gate = Gate(book, EXCHANGE)
            for sight in random_history(source, [book], 10):
                self.assertEqual(read_sight(write_sight(sight)), sight)
                packet = packet_of(sight)
                self.assertEqual(read_packet(write_packet(packet)), packet)
                self.assertEqual(sight_of(sight[0], packet), sight)
                gate.receive(sight[0], write_packet(packet))
            self.assertEqual(dumped(loaded(dumped(gate))), dumped(gate))
            self.assertEqual(read_exchange(write_exchange(EXCHANGE)), EXCHANGE)

    def test_programs_in_another_order(self):
        program = compiled(B)
        order = tuple(range(len(program)))
        self.assertEqual(relinked(read_program(write_program(program)), order), program)


def calls():
    """For each function with lists or dicts among its arguments, or that returns one, arguments to call it with."""
    history = (SIGHT, (1, 6, 4, 80, 9, 7, 1, 0, 20))
    double = (("main", (((("source", ((9, 9),)),), ("accept",), "new"),), (("drop",), ("drop",))),)
    return {
        "ranges.set_of": [[(5, 9), (3, 3), (4, 1)]], "ranges.ends_of": [[((3, 5),), ((4, 9),)], 100], "prefixes.cover": [((1, 6),)],
        "prefixes.longest": [[(0, 0), (0, 16)], 0], "sums.folded": [[1, 2, 65535]], "books.rule_places": [B],
        "plans.joined_plans": [plan_of(B), plan_of(LINE), {(("drop",), ("drop",)): ("accept",)}], "rows.run_row": [(B,), history],
        "rows.states_after": [(B,), history], "needed.hidden_rules": [B], "needed.needless_rules": [B], "tallies.tally": [B, history],
        "tallies.woven": [[history, (SIGHT,)], [0, 1, 0]], "journals.recorded": [KEEPER, (), [("in", 0, write_packet(asking(9, 4))), ("forget", KEY)]],
        "onekey.reached": [(B,), KEY], "onekey.passing": [(B,), KEY, (0,)], "cases.cases_of": [LINE], "suites.covered": [B, [history, (SIGHT,)]],
        "suites.suite_of": [B], "suites.is_suite": [B, [history]], "steps.step_paper": [double], "closing.paper_of": [("part", (B,), (KEEPER,))],
    }


class ArgumentsAndResults(unittest.TestCase):
    def test_arguments_stay_and_results_are_new(self):
        for name, arguments in calls().items():
            module, function_name = name.split(".")
            function = getattr(importlib.import_module("gatewarden." + module), function_name)
            before = copy.deepcopy(arguments)
            first = function(*arguments)
            self.assertEqual(arguments, before, name)
            kept = copy.deepcopy(first)
            spoil(first)
            self.assertEqual(arguments, before, name)
            self.assertEqual(function(*arguments), kept, name)

    def test_results_of_objects_are_new(self):
        gate, desk, console = Gate(KEEPER, ()), Desk(), Console()
        gate.receive(0, write_packet(stream(9, 4)))
        desk.set_book("book", KEEPER)
        desk.add_gate("gate", "book", ())
        desk.receive("gate", 0, write_packet(stream(9, 4)))
        console.enter("book book drop")
        for ask in (gate.talks, gate.counts, desk.books, desk.gates, lambda: desk.move("gate", "book"), lambda: console.enter("show book"),
                    lambda: console.enter("size book")):
            kept = copy.deepcopy(ask())
            spoil(ask())
            self.assertEqual(ask(), kept)

    def test_kinds_of_results(self):
        for name, arguments in calls().items():
            module, function_name = name.split(".")
            found = getattr(importlib.import_module("gatewarden." + module), function_name)(*arguments)
            self.assertTrue(is_plain(found), name)


def spoil(value):
    """Changes each list and dict in a value."""
    if isinstance(value, tuple):
        for part in value:
            spoil(part)
    elif isinstance(value, list):
        for part in value:
            spoil(part)
        value.append("spoilt")
    elif isinstance(value, dict):
        value["spoilt"] = True


def is_plain(value):
    """True if a value is made of integers, booleans, None, strings, tuples, lists and dicts of no class of their own."""
    if type(value) in (tuple, list):
        return all(is_plain(part) for part in value)
    if type(value) is dict:
        return all(is_plain(part) for item in value.items() for part in item)
    return value is None or type(value) in (int, bool, str)


class Interface(unittest.TestCase):
    def test_every_file_is_listed(self):
        files = "ranges prefixes sums packets views talks books walking boxes cuts plans rows gate watches closing questions needed sightcounts tallies"
        files += " doubles steps machine byteboxes meaning compiling trimming booktexts dumps desk console journals onekey cases suites programtexts"
        self.assertEqual(set(files.split()), set(INTERFACE) | set(CLASSES))

    def test_errors(self):
        names = ["BadText", "Malformed", "NoPlace", "BadBook", "BadExchange", "NoTalk", "BadOrder", "Unlike", "TooMany", "TooLong", "BadLine", "BadWord",
                 "Unknown", "InUse", "Taken", "Full", "NothingToUndo", "NoWay"]
        for name in names:
            self.assertEqual(getattr(errors, name).__bases__, (GateError,))
        self.assertEqual(GateError.__bases__, (ValueError,))

    def test_functions_that_take_any_value(self):
        two = {"check_cuts": (B, tuple((0, 1) for _ in range(11))), "check_paper": (("part", (B,), (ALL,)),), "check_meaning": (compiled(B), B),
               "check_steps": (B_DOUBLE,)}
        for module, listed in INTERFACE.items():
            for entry in listed.split():
                name = entry.split("(")[0]
                if entry.endswith("value)"):
                    function = getattr(importlib.import_module("gatewarden." + module), name)
                    for value in odd_values():
                        self.assertIn(function(*two.get(name, ()), value), (True, False), name)
                        if not isinstance(value, tuple):
                            self.assertIs(function(*two.get(name, ()), value), False, name)


B_DOUBLE = tuple((word, tuple(rule + ("both",) for rule in rules), (default, default)) for word, rules, default in B)


if __name__ == "__main__":
    unittest.main()
