"""Points 17.1 and 17.2: the desk."""

import inspect
import itertools
import random
import unittest

from gatewarden.closing import paper_of
from gatewarden.desk import Desk
from gatewarden.dumps import dumped
from gatewarden.errors import (
    BadBook, BadExchange, BadWord, Full, GateError, InUse, NothingToUndo, NoTalk, Taken, Unknown,
)
from gatewarden.gate import Gate
from gatewarden.packets import write_packet
from gatewarden.talks import key_of
from gatewarden.views import packet_of
from tests.bookhelp import B, plain_walk
from tests.helpers import nested, odd_values
from tests.historyhelp import (
    ACCEPT, ALL, DROP, KEEPER, LEAST, NOTHING, NO_TALK, changed_book, late_book, living_book, only, plain_look, random_history,
    small_fields, starts_in,
)
from tests.test_gate import EXCHANGE, asking, stream
from tests.test_talks import ASKING, STREAM

ROW = write_packet(asking(9, 4))
KEY = (17, (4, 80), (9, 7))


def whole_state(desk):
    """All that a desk tells of itself."""
    return (
        [(word, desk.book(word)) for word in desk.books()],
        [(word, desk.dump(word), desk.gate_book(word)) for word in desk.gates()],
    )


def filled():
    """A desk with two books and a gate with a talk."""
    desk = Desk()
    desk.set_book("all", ALL)
    desk.set_book("keeper", KEEPER)
    desk.add_gate("front", "keeper", EXCHANGE)
    desk.receive("front", 0, ROW)
    return desk


class Model:
    """A desk that does all its deeds again whenever it is asked."""

    def __init__(self):
        self.deeds = []

    def state(self):
        books, gates = {}, {}
        for name, *rest in self.deeds:
            if name == "set_book":
                books[rest[0]] = rest[1]
            elif name == "drop_book":
                del books[rest[0]]
            elif name == "add_gate":
                gates[rest[0]] = [Gate(books[rest[1]], rest[2]), rest[1]]
            elif name == "drop_gate":
                del gates[rest[0]]
            elif name == "set_gate":
                gates[rest[0]][0].set_book(books[rest[1]])
                gates[rest[0]][1] = rest[1]
            elif name == "receive":
                gates[rest[0]][0].receive(rest[1], rest[2])
            else:
                gates[rest[0]][0].forget(rest[1])
        return books, gates

    def told(self):
        books, gates = self.state()
        names = {word: name if books.get(name) == gate.book() else "" for word, (gate, name) in gates.items()}
        return (
            [(word, books[word]) for word in sorted(books)],
            [(word, dumped(gates[word][0]), names[word]) for word in sorted(gates)],
        )

    def error_of(self, name, *rest):
        """The error that a deed raises, in the order of the document, or None."""
        books, gates = self.state()
        if name == "set_book":
            return Full if len(books) == 8 and rest[0] not in books else None
        if name == "drop_book":
            names = [named for gate, named in gates.values() if books.get(named) == gate.book()]
            return Unknown if rest[0] not in books else InUse if rest[0] in names else None
        if name == "add_gate":
            if rest[1] not in books:
                return Unknown
            return Taken if rest[0] in gates else Full if len(gates) == 4 else None
        if rest[0] not in gates or (name == "set_gate" and rest[1] not in books):
            return Unknown
        if name == "forget":
            return None if rest[1] in dict(gates[rest[0]][0].talks()) else NoTalk
        return None


class Interface(unittest.TestCase):
    def test_methods_stand_in_the_class(self):
        self.assertEqual(list(inspect.signature(Desk).parameters), [])
        for name, arguments in [
            ("set_book", ["word", "book"]), ("drop_book", ["word"]), ("add_gate", ["word", "name", "exchange"]), ("drop_gate", ["word"]),
            ("set_gate", ["word", "name"]), ("receive", ["word", "interface", "row"]), ("forget", ["word", "key"]), ("undo", []), ("books", []),
            ("gates", []), ("book", ["word"]), ("dump", ["word"]), ("gate_book", ["word"]), ("ask", ["names", "others"]), ("move", ["word", "name"]),
        ]:
            self.assertIn(name, vars(Desk))
            self.assertEqual(list(inspect.signature(vars(Desk)[name]).parameters), ["self"] + arguments)

    def test_new_desk(self):
        desk = Desk()
        self.assertEqual((desk.books(), desk.gates()), ([], []))
        with self.assertRaises(NothingToUndo):
            desk.undo()

    def test_what_is_returned(self):
        desk = Desk()
        self.assertIsNone(desk.set_book("all", ALL))
        self.assertIsNone(desk.set_book("keeper", KEEPER))
        self.assertIsNone(desk.add_gate("front", "all", ()))
        self.assertIsNone(desk.set_gate("front", "keeper"))
        self.assertEqual(desk.receive("front", 0, ROW)[:2], ("out", 1))
        self.assertIsNone(desk.forget("front", KEY))
        self.assertIsNone(desk.drop_gate("front"))
        self.assertIsNone(desk.drop_book("all"))
        self.assertIsNone(desk.undo())
        self.assertEqual(desk.books(), ["all", "keeper"])

    def test_lists_are_new(self):
        desk = filled()
        for told in (desk.books, desk.gates):
            found = told()
            self.assertIs(type(found), list)
            found.append("zzz")
            self.assertNotIn("zzz", told())
        names = ["all"]
        self.assertEqual(desk.ask(names, names), "closed")
        self.assertEqual(names, ["all"])
        found = desk.move("front", "all")
        self.assertIs(type(found), tuple)
        self.assertIs(type(found[1]), list)


class Errors(unittest.TestCase):
    """Each error alone and with others; what is refused is no deed and changes nothing."""

    def refused(self, desk, error, name, *arguments):
        before = whole_state(desk)
        with self.assertRaises(GateError) as caught:
            vars(Desk)[name](desk, *arguments)
        self.assertIs(type(caught.exception), error, (name, arguments))
        self.assertEqual(whole_state(desk), before)

    def test_set_book(self):
        desk = filled()
        for word in odd_values() + ["", "A", "a b", "aaaaaaaaaaaaa", "a1", ("a",), b"a"]:
            if isinstance(word, str) and word in ("accept", "none"):
                continue
            self.refused(desk, BadWord, "set_book", word, ALL)
            self.refused(desk, BadWord, "set_book", word, None)
        for book in odd_values() + [[B], list(B), (B,), nested(B, 150), (("main", (), ("back",)),)]:
            self.refused(desk, BadBook, "set_book", "all", book)
            self.refused(desk, BadBook, "set_book", "other", book)
        for k in range(6):
            desk.set_book("abcdef"[k], B)
        self.assertEqual(len(desk.books()), 8)
        self.refused(desk, Full, "set_book", "other", B)
        self.refused(desk, BadBook, "set_book", "other", None)
        self.refused(desk, BadWord, "set_book", "Other", None)
        for word in desk.books():
            desk.set_book(word, NOTHING)
        self.assertEqual({desk.book(word) for word in desk.books()}, {NOTHING})
        desk.drop_book("a")
        desk.set_book("other", B)
        self.refused(desk, Full, "set_book", "a", B)

    def test_drop_book(self):
        desk = filled()
        self.refused(desk, Unknown, "drop_book", "none")
        self.refused(desk, Unknown, "drop_book", "front")
        self.refused(desk, InUse, "drop_book", "keeper")
        desk.drop_book("all")
        self.refused(desk, Unknown, "drop_book", "all")
        # A gate whose book has no longer this name does not hold it.
        desk.set_book("keeper", ALL)
        self.assertEqual(desk.gate_book("front"), "")
        desk.drop_book("keeper")
        self.assertEqual(desk.books(), [])
        desk.set_book("keeper", KEEPER)
        self.assertEqual(desk.gate_book("front"), "keeper")
        self.refused(desk, InUse, "drop_book", "keeper")
        # An equal book of another name is not the gate's.
        desk.set_book("twin", KEEPER)
        desk.drop_book("twin")

    def test_add_gate(self):
        desk = filled()
        for word in odd_values() + ["", "A", "aaaaaaaaaaaaa"]:
            if isinstance(word, str) and word in ("accept", "none"):
                continue
            self.refused(desk, BadWord, "add_gate", word, "all", ())
            self.refused(desk, BadWord, "add_gate", word, "other", None)
        self.refused(desk, Unknown, "add_gate", "back", "other", ())
        self.refused(desk, Unknown, "add_gate", "front", "front", None)
        for exchange in odd_values() + [[], list(EXCHANGE), EXCHANGE + EXCHANGE, (((256, 8), (512, 7)),), nested(EXCHANGE, 150)]:
            self.refused(desk, BadExchange, "add_gate", "back", "all", exchange)
            self.refused(desk, BadExchange, "add_gate", "front", "all", exchange)
        self.refused(desk, Taken, "add_gate", "front", "all", ())
        for word in ("a", "b", "c"):
            desk.add_gate(word, "all", ())
        self.assertEqual(desk.gates(), ["a", "b", "c", "front"])
        self.refused(desk, Taken, "add_gate", "front", "all", ())
        self.refused(desk, Full, "add_gate", "d", "all", EXCHANGE)
        self.refused(desk, Unknown, "add_gate", "d", "other", EXCHANGE)
        self.refused(desk, BadExchange, "add_gate", "d", "all", None)
        desk.drop_gate("a")
        desk.add_gate("d", "all", EXCHANGE)
        # A book and a gate may have the same name.
        desk.drop_gate("d")
        desk.add_gate("all", "all", ())
        self.assertEqual(desk.gate_book("all"), "all")

    def test_unknown_names(self):
        desk = filled()
        for name, arguments in [
            ("drop_gate", ["other"]), ("drop_gate", ["all"]), ("set_gate", ["other", "all"]), ("set_gate", ["front", "other"]),
            ("set_gate", ["other", "other"]), ("set_gate", ["all", "front"]), ("receive", ["other", 0, ROW]), ("receive", ["keeper", 0, ROW]),
            ("forget", ["other", KEY]), ("forget", ["keeper", KEY]), ("book", ["front"]), ("book", ["other"]), ("dump", ["all"]), ("dump", ["other"]),
            ("gate_book", ["all"]), ("gate_book", ["other"]), ("ask", [["all", "other"], ["all"]]), ("ask", [["all"], ["other"]]),
            ("ask", [["front"], ["all"]]), ("move", ["other", "all"]), ("move", ["front", "other"]), ("move", ["all", "front"]), ("book", [""]),
            ("drop_book", [""]), ("book", ["Keeper"]),
        ]:
            self.refused(desk, Unknown, name, *arguments)
        self.refused(desk, NoTalk, "forget", "front", (17, (4, 80), (9, 8)))
        self.refused(desk, NoTalk, "forget", "front", (6, (4, 80), (9, 7)))
        self.refused(desk, Unknown, "forget", "other", (6, (4, 80), (9, 7)))

    def test_refused_calls_are_no_deeds(self):
        desk = filled()
        states = [whole_state(desk)]
        for name, arguments in [
            ("set_book", ["A", ALL]), ("set_book", ["a", None]), ("drop_book", ["x"]), ("drop_book", ["keeper"]), ("add_gate", ["front", "all", ()]),
            ("drop_gate", ["x"]), ("set_gate", ["front", "x"]), ("receive", ["x", 0, ROW]), ("forget", ["front", (6, (1, 1), (2, 2))]),
        ]:
            with self.assertRaises(GateError):
                vars(Desk)[name](desk, *arguments)
        desk.undo()
        self.assertNotEqual(whole_state(desk), states[0])
        self.assertTrue(desk.dump("front").endswith("default drop\nend"))
        for _ in range(3):
            desk.undo()
        self.assertEqual(whole_state(desk), ([], []))
        with self.assertRaises(NothingToUndo):
            desk.undo()


class Deeds(unittest.TestCase):
    def test_undo_of_each_deed(self):
        for name, arguments in [
            ("set_book", ["all", B]), ("set_book", ["new", B]), ("set_book", ["keeper", B]), ("set_book", ["keeper", KEEPER]), ("drop_book", ["all"]),
            ("add_gate", ["back", "all", ()]), ("drop_gate", ["front"]), ("set_gate", ["front", "all"]), ("set_gate", ["front", "keeper"]),
            ("receive", ["front", 1, write_packet(asking(4, 9 + 503, 80, 7))]), ("receive", ["front", 0, ROW]), ("receive", ["front", 0, ()]),
            ("receive", ["front", 1, ROW]), ("forget", ["front", KEY]),
        ]:
            desk = filled()
            before = whole_state(desk)
            vars(Desk)[name](desk, *arguments)
            desk.undo()
            self.assertEqual(whole_state(desk), before, (name, arguments))
            # One more takes back what stood before: the packet that opened the talk.
            desk.undo()
            self.assertNotEqual(whole_state(desk), before)

    def test_dropped_packets_are_deeds(self):
        desk = filled()
        before = whole_state(desk)
        self.assertEqual(desk.receive("front", 0, ()), ("dropped", "short"))
        self.assertEqual(whole_state(desk), before)
        desk.undo()
        self.assertEqual(whole_state(desk), before)
        counting = (("main", (((), ("count", 5)),), DROP),)
        desk.set_book("counting", counting)
        desk.set_gate("front", "counting")
        self.assertEqual(desk.receive("front", 0, ROW), ("dropped", "book"))
        self.assertIn("\ncount 5 1\n", desk.dump("front"))
        desk.undo()
        self.assertNotIn("count 5 1", desk.dump("front"))

    def test_gates_keep_their_books(self):
        desk = filled()
        desk.set_book("keeper", NOTHING)
        self.assertEqual(desk.gate_book("front"), "")
        self.assertEqual(desk.receive("front", 0, ROW)[0], "out")
        desk.set_gate("front", "keeper")
        self.assertEqual(desk.gate_book("front"), "keeper")
        self.assertEqual(desk.receive("front", 0, ROW), ("dropped", "book"))
        self.assertIn("talk 17 4 80 9 7 -1", desk.dump("front"))

    def test_names_stay_through_packets(self):
        desk = filled()
        self.assertEqual(desk.gate_book("front"), "keeper")
        desk.receive("front", 0, ROW)
        self.assertEqual(desk.gate_book("front"), "keeper")
        desk.forget("front", KEY)
        self.assertEqual(desk.gate_book("front"), "keeper")
        desk.undo()
        self.assertEqual(desk.gate_book("front"), "keeper")

    def test_gate_book(self):
        desk = Desk()
        desk.set_book("one", ALL)
        desk.set_book("two", ALL)
        desk.add_gate("gate", "one", ())
        self.assertEqual(desk.gate_book("gate"), "one")
        desk.set_book("one", NOTHING)
        self.assertEqual(desk.gate_book("gate"), "")
        desk.set_book("one", ALL)
        self.assertEqual(desk.gate_book("gate"), "one")
        desk.set_gate("gate", "two")
        self.assertEqual(desk.gate_book("gate"), "two")
        desk.set_book("two", KEEPER)
        self.assertEqual(desk.gate_book("gate"), "")
        desk.drop_book("two")
        self.assertEqual(desk.gate_book("gate"), "")
        desk.undo()
        desk.undo()
        self.assertEqual(desk.gate_book("gate"), "two")
        desk.undo()
        self.assertEqual(desk.gate_book("gate"), "one")

    def test_against_all_deeds_again(self):
        source = random.Random(381)
        rows = [write_packet(packet) for packet in (
            asking(9, 4), asking(4, 9, 80, 7), stream(9, 4), stream(4, 9, 1, 80, 7), stream(9, 4, 4), stream(9, 4, 2), asking(300, 4), asking(4, 556, 80, 7))]
        rows += [(), rows[0][:-1]]
        names = ["a", "b", "c", "d", "e", "f", "g", "h", "i"]
        kinds = {"refused": 0, "done": 0, "undone": 0}
        for turn in range(25):
            desk, model = Desk(), Model()
            for _ in range(60):
                call = source.choice([
                    ("set_book", source.choice(names[:9]), source.choice((ALL, KEEPER, B, NOTHING))), ("drop_book", source.choice(names)),
                    ("set_book", source.choice(names[:9]), source.choice((ALL, KEEPER, B, NOTHING))),
                    ("add_gate", source.choice(names[:6]), source.choice(names), source.choice(((), EXCHANGE))), ("drop_gate", source.choice(names[:6])),
                    ("set_gate", source.choice(names[:6]), source.choice(names)), ("receive", source.choice(names[:4]), source.randrange(2), source.choice(rows)),
                    ("receive", source.choice(names[:4]), source.randrange(2), source.choice(rows)), ("forget", source.choice(names[:4]), KEY), ("undo",),
                ])
                if call[0] == "undo":
                    if model.deeds:
                        desk.undo()
                        model.deeds.pop()
                        kinds["undone"] += 1
                    else:
                        with self.assertRaises(NothingToUndo):
                            desk.undo()
                else:
                    error = model.error_of(*call)
                    if error:
                        kinds["refused"] += 1
                        with self.assertRaises(error):
                            vars(Desk)[call[0]](desk, *call[1:])
                    else:
                        kinds["done"] += 1
                        model.deeds.append(call)
                        vars(Desk)[call[0]](desk, *call[1:])
                self.assertEqual(whole_state(desk), model.told())
            while model.deeds:
                desk.undo()
                model.deeds.pop()
                self.assertEqual(whole_state(desk), model.told())
            with self.assertRaises(NothingToUndo):
                desk.undo()
        self.assertGreater(min(kinds.values()), 100, kinds)

    def test_results_are_those_of_a_gate(self):
        source = random.Random(382)
        for _ in range(20):
            fields = small_fields(source)
            book = living_book(source, fields)
            desk, gate = Desk(), Gate(book, EXCHANGE)
            desk.set_book("book", book)
            desk.add_gate("gate", "book", EXCHANGE)
            for sight in random_history(source, [book], 20):
                row = write_packet(packet_of(sight))
                self.assertEqual(desk.receive("gate", sight[0], row), gate.receive(sight[0], row))
                self.assertEqual(desk.dump("gate"), dumped(gate))

    def test_values_of_the_caller(self):
        # Nothing that is passed can be changed by anybody; the row is a tuple, and so are books.
        desk = filled()
        first = desk.book("keeper")
        self.assertEqual(first, KEEPER)
        text = desk.dump("front")
        desk.receive("front", 0, write_packet(stream(9, 4)))
        self.assertNotEqual(desk.dump("front"), text)


class Questions(unittest.TestCase):
    def test_ask(self):
        desk = filled()
        desk.set_book("b", B)
        desk.set_book("nothing", NOTHING)
        for names, others, wanted in [
            (["all"], ["all"], "closed"), (["all"], ["keeper"], "history"), (["keeper"], ["keeper", "keeper"], "closed"), (["b"], ["b", "b"], "closed"),
            (["b", "keeper"], ["b"], "closed"), (["b"], ["keeper"], "history"), (["all", "nothing"], ["nothing"], "closed"),
            (["nothing"], ["all", "all", "nothing"], "closed"), (["all", "all", "all"], ["all"], "closed"), (["all", "b"], ["nothing"], "history"),
        ]:
            before = whole_state(desk)
            self.assertEqual(desk.ask(names, others), wanted, (names, others))
            self.assertEqual(whole_state(desk), before)

    def test_ask_against_papers(self):
        source = random.Random(383)
        words = []
        for _ in range(25):
            fields = small_fields(source)
            book = late_book(source, fields)
            other = changed_book(source, book, fields)
            desk = Desk()
            desk.set_book("one", book)
            desk.set_book("other", other)
            words.append(desk.ask(["one"], ["other"]))
            self.assertEqual(words[-1], paper_of(("part", (book,), (other,)))[0])
        self.assertEqual(set(words), {"closed", "history"})

    def test_move(self):
        desk = filled()
        self.assertEqual(desk.move("front", "keeper"), ("closed", []))
        self.assertEqual(desk.move("front", "all"), ("closed", []))
        desk.set_book("nothing", NOTHING)
        self.assertEqual(desk.move("front", "nothing"), ("history", [KEY]))
        desk.set_book("opening", only(("talk", ((1, 1),))))
        self.assertEqual(desk.move("front", "opening"), ("history", [KEY]))
        desk.forget("front", KEY)
        self.assertEqual(desk.move("front", "nothing"), ("history", []))
        desk.set_gate("front", "nothing")
        self.assertEqual(desk.move("front", "all"), ("closed", []))
        # The gate's book is asked, also where its name has another one now.
        desk.undo()
        desk.undo()
        desk.set_book("keeper", NOTHING)
        self.assertEqual(desk.move("front", "nothing"), ("history", [KEY]))

    def test_talks_that_one_packet_breaks(self):
        one, two = (6, (4, 80), (9, 7)), (6, (4, 80), (300, 7))
        for conditions, keys in [
            ((("length", ((777, 777),)),), [KEY, one, two]), ((("length", ((1500, 1500),)),), [KEY, one, two]), ((("length", ((18, 18),)),), [KEY]),
            ((("length", ((20, 20),)),), [KEY, one, two]), ((("length", ((0, 17),)),), []), ((("interface", ((1, 1),)),), [KEY, one, two]),
            ((("source", ((4, 4),)), ("sport", ((80, 80),))), [KEY, one, two]), ((("source", ((9, 9),)),), [KEY, one]), ((("source", ((300, 300),)),), [two]),
            ((("destination", ((300, 300),)), ("interface", ((0, 0),)), ("length", ((99, 99),))), [two]), ((("source", ((5, 5),)),), []),
            ((("flags", ((4, 4),)),), [one, two]), ((("flags", ((1, 1),)),), [one]), ((("flags", ((2, 2),)),), [two]), ((("flags", ((6, 6),)),), [two]),
            ((("flags", ((3, 3),)),), []), ((("side", ((1, 1),)),), [KEY, one, two]), ((("side", ((1, 1),)), ("talk", ((2, 2),))), [KEY, one]),
            ((("talk", ((3, 3),)),), [two]), ((("talk", ((1, 1),)),), []), ((("talk", ((6, 6),)),), []), ((("code", ((1, 9),)),), []),
        ]:
            desk = Desk()
            desk.set_book("all", ALL)
            desk.set_book("less", only(*conditions, action=DROP, default=ACCEPT))
            desk.add_gate("gate", "all", ())
            for interface, packet in [(0, asking(9, 4)), (0, stream(9, 4)), (0, stream(300, 4)), (1, stream(4, 300, 1, 80, 7))]:
                desk.receive("gate", interface, write_packet(packet))
            word, found = desk.move("gate", "less")
            self.assertEqual(found, sorted(keys), conditions)
            self.assertEqual(word, paper_of(("break", ALL, only(*conditions, action=DROP, default=ACCEPT)))[0])
            if found:
                self.assertEqual(word, "history")

    def test_talks_that_may_break(self):
        source = random.Random(384)
        broken = kept = 0
        while min(broken, kept) < 40:
            fields = small_fields(source)
            book = source.choice((living_book, late_book))(source, fields)
            other = changed_book(source, book, fields)
            opener = (("main", ((((("flags", ((4, 7),)),)), DROP),), ACCEPT),)
            desk = Desk()
            for word, one in (("book", book), ("other", other), ("opener", opener)):
                desk.set_book(word, one)
            desk.add_gate("gate", "opener", ())
            for sight in random_history(source, [book, other], 14):
                desk.receive("gate", sight[0], write_packet(packet_of(sight)))
            desk.set_gate("gate", "book")
            talks = [line.split(" ")[1:] for line in desk.dump("gate").split("\n") if line.startswith("talk")]
            wanted = []
            for items in talks:
                kind, first, port, second, far, state = map(int, items)
                if plain_may_break((kind, (first, port), (second, far)), state, book, other):
                    wanted.append((kind, (first, port), (second, far)))
            word, found = desk.move("gate", "other")
            self.assertEqual(found, wanted)
            self.assertEqual(word, paper_of(("break", book, other))[0])
            broken += len(wanted)
            kept += len(talks) - len(wanted)


def plain_may_break(key, state, book, other):
    """Point 17.2, by trying a sight of each kind that books can tell apart."""
    kind, first, second = key
    talk = (abs(state), first if state > 0 else second) if state else NO_TALK
    lengths = [n for n in starts_in([book, other], ("length",), 1500, (), [LEAST[kind], 1500]) if n >= LEAST[kind]]
    flags = range(8) if kind == 6 else [0]
    for ends, interface, flag, length in itertools.product(((first, second), (second, first)), (0, 1), flags, lengths):
        sight = (interface, kind) + ends[0] + ends[1] + (flag, 0, length)
        assert key_of(sight) == key
        moves = STREAM[talk[0]] if kind == 6 else ASKING[talk[0]]
        code, side, _ = plain_look(talk, sight)
        if ((side, flag) if kind == 6 else side) not in moves:
            continue
        view = sight + (code, side)
        if plain_walk(book, view)[0] == ACCEPT and plain_walk(other, view)[0] != ACCEPT:
            return True
    return False


if __name__ == "__main__":
    unittest.main()
