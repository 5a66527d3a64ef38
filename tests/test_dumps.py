"""Points 16.1 and 16.2: dumps of gates."""

import random
import unittest

from gatewarden.booktexts import write_book, write_exchange
from gatewarden.dumps import dumped, loaded
from gatewarden.errors import BadText
from gatewarden.gate import Gate
from gatewarden.packets import write_packet
from gatewarden.views import packet_of
from tests.bookhelp import B
from tests.historyhelp import ACCEPT, DROP, late_book, living_book, random_history, small_fields
from tests.test_gate import ALL, EXCHANGE, asking, snapshot, stream
from tests.texthelp import any_book, spoilt_lines

COUNTER = (("main", (((), ("count", 7)), ((("kind", ((6, 6),)),), ("count", 0)), ((), ACCEPT)), DROP),)


def plain_dump(gate):
    """The dump of a gate, line by line."""
    lines = ["exchange " + write_exchange(gate.exchange())] + write_book(gate.book()).split("\n")
    for (kind, (first, port), (second, far)), state in gate.talks():
        lines.append(f"talk {kind} {first} {port} {second} {far} {state}")
    for number, often in gate.counts():
        lines.append(f"count {number} {often}")
    return "\n".join(lines + ["end"])


def busy_gate(source, exchange=EXCHANGE):
    """A gate by chance with talks of both kinds and signs and with counts."""
    fields = small_fields(source)
    book = source.choice((living_book, late_book))(source, fields)
    counting = ((("main", (((), ("count", source.randrange(100))), ((), ("count", 99))) + book[0][1][:18], ACCEPT),) + book[1:])
    gate = Gate(counting, exchange)
    for sight in random_history(source, [book], 30):
        gate.receive(sight[0], write_packet(packet_of(sight)))
    if source.random() < 0.3:
        gate.set_book(any_book(source))
    return gate


class Dumped(unittest.TestCase):
    def test_new_gates(self):
        self.assertEqual(dumped(Gate(ALL, ())), "exchange none\nchain main\ndefault accept\nend")
        self.assertEqual(dumped(Gate(B, EXCHANGE)), "exchange 256/8=512/8\n" + write_book(B) + "\nend")

    def test_talks_and_counts(self):
        gate = Gate(COUNTER, ())
        gate.receive(0, write_packet(asking(9, 4)))
        gate.receive(0, write_packet(asking(4, 9, 5, 6)))
        gate.receive(0, write_packet(stream(9, 4)))
        gate.receive(1, write_packet(stream(4, 9, 1, 80, 7)))
        gate.receive(0, write_packet(stream(4, 10)))
        self.assertEqual(dumped(gate).split("\n"), [
            "exchange none", "chain main", "rule count 7", "rule kind=6 count 0", "rule accept", "default drop", "talk 6 4 7 10 80 1",
            "talk 6 4 80 9 7 -2", "talk 17 4 5 9 6 1", "talk 17 4 80 9 7 -1", "count 0 3", "count 7 5", "end"])

    def test_there_and_back(self):
        source = random.Random(371)
        talks, counts = [], []
        for _ in range(200):
            gate = busy_gate(source, source.choice((EXCHANGE, ())))
            before = snapshot(gate)
            text = dumped(gate)
            self.assertEqual(text, plain_dump(gate))
            self.assertEqual(snapshot(gate), before)
            found = loaded(text)
            self.assertIs(type(found), Gate)
            self.assertEqual(snapshot(found), before)
            self.assertEqual(dumped(found), text)
            talks.extend([(key[0], state) for key, state in gate.talks()])
            counts.extend(gate.counts())
        for kind, top in ((6, 4), (17, 2)):
            for state in range(-top, top + 1):
                self.assertEqual((kind, state) in talks, state != 0)
        self.assertGreater(len(set(counts)), 20)

    def test_what_both_gates_do_afterwards(self):
        source = random.Random(372)
        for _ in range(80):
            gate = busy_gate(source)
            other = loaded(dumped(gate))
            for sight in random_history(source, [gate.book()], 20):
                row = write_packet(packet_of(sight))
                self.assertEqual(gate.receive(sight[0], row), other.receive(sight[0], row))
            self.assertEqual(snapshot(gate), snapshot(other))
            for key, _ in gate.talks():
                other.forget(key)
            self.assertEqual(other.talks(), [])

    def test_gates_are_apart(self):
        gate = Gate(COUNTER, ())
        gate.receive(0, write_packet(asking(9, 4)))
        other = loaded(dumped(gate))
        before = snapshot(gate)
        other.receive(1, write_packet(asking(4, 9, 80, 7)))
        other.set_book(ALL)
        self.assertEqual(snapshot(gate), before)
        text = dumped(gate)
        gate.receive(0, write_packet(stream(9, 4)))
        self.assertEqual(snapshot(loaded(text)), before)


HEAD = "exchange none\nchain main\ndefault drop\n"


class Loaded(unittest.TestCase):
    def good(self, *lines):
        text = HEAD + "\n".join(lines + ("end",))
        self.assertEqual(dumped(loaded(text)), text)

    def bad(self, *lines):
        with self.assertRaises(BadText, msg=lines):
            loaded(HEAD + "\n".join(lines + ("end",)))

    def test_states_of_kinds(self):
        for kind, top in ((6, 4), (17, 2)):
            for state in range(-6, 7):
                check = self.good if state != 0 and abs(state) <= top else self.bad
                check(f"talk {kind} 4 80 9 7 {state}")
        for kind in (0, 1, 5, 7, 16, 18, 255, 256, 3000000000):
            self.bad(f"talk {kind} 4 80 9 7 1")
            self.bad(f"talk {kind} 4 0 9 0 0")

    def test_numbers_of_talks(self):
        for text in ["-0", "+1", "01", "-01", "--1", "1-", "", "-", "1.0", "x", "12345678901", "-12345678901", " 1", "1 1", "1 "]:
            self.bad("talk 6 4 80 9 7 " + text)
        for line in ["talk 6 4 80 9 7", "talk", "talk ", "talk 6", "talk 6 4 80 9", "talk 6 4 80 9 7 1 1", "talk 06 4 80 9 7 1", "talk 6 04 80 9 7 1",
                     "talk 6 -4 80 9 7 1", "talk 6  4 80 9 7 1", " talk 6 4 80 9 7 1", "Talk 6 4 80 9 7 1", "talk 6 4 80 9 7 1 ", "talk 6 4,80 9,7 1"]:
            self.bad(line)
        self.good("talk 6 0 65535 65535 0 1")
        self.bad("talk 6 0 65536 65535 0 1")
        self.bad("talk 6 0 0 65536 0 1")

    def test_ends_of_keys(self):
        self.good("talk 6 4 80 9 7 1")
        self.bad("talk 6 9 7 4 80 1")
        self.bad("talk 6 4 80 4 81 1")
        self.bad("talk 6 4 80 4 80 1")
        self.bad("talk 6 4 81 4 80 1")

    def test_order(self):
        one, two, three, four = "talk 6 4 80 9 7 1", "talk 6 4 80 10 1 -2", "talk 6 5 0 9 7 4", "talk 17 1 0 9 7 1"
        self.good(one, two, three, four)
        self.good("talk 6 4 9 9 7 1", one)
        self.bad(one, "talk 6 4 9 9 7 1")
        self.bad(two, one)
        self.bad(four, one)
        self.bad(one, one)
        self.bad(one, "talk 6 4 80 9 7 2")
        self.good("count 3 1", "count 20 1")
        self.bad("count 20 1", "count 3 1")
        self.bad("count 3 1", "count 3 1")
        self.bad("count 3 1", "count 3 2")
        self.good(one, "count 3 1")
        self.bad("count 3 1", one)
        self.bad(one, "count 3 1", two)

    def test_counts(self):
        for text in ["0 1", "99 1", "0 9999999999", "5 10"]:
            self.good("count " + text)
        for text in ["0 0", "99 0", "100 1", "-1 1", "0 -1", "1", "", "1 1 1", "01 1", "1 01", "1 +1", "a 1", "1 12345678901", "12345678901 1", " 1 1", "1  1"]:
            self.bad("count " + text)
        self.bad("count")
        self.bad("counts 1 1")

    def test_other_lines(self):
        for line in ["", " ", "end", "end ", "exchange none", "chain b", "default drop", "rule drop", "talks 1", "# talk"]:
            self.bad(line)
        self.good()
        for text in ["", "\n", "end", HEAD, HEAD[:-1], HEAD + "end\n", HEAD + "end\nend", HEAD + " end", HEAD + "End", HEAD + "end ", "\n" + HEAD + "end",
                     HEAD[14:] + "end", "exchange none\nend", "exchange none", "exchange\nchain main\ndefault drop\nend", HEAD.replace("none", "none ") + "end",
                     HEAD.replace("none", "256/8=512/7") + "end", HEAD.replace("none", "") + "end", HEAD.replace("exchange ", "exchange  ") + "end",
                     HEAD.replace("exchange ", "exchanges ") + "end", HEAD.replace("drop", "back") + "end", HEAD.replace("chain", "Chain") + "end",
                     HEAD.replace("default drop", "rule drop") + "end", "chain main\ndefault drop\nexchange none\nend", HEAD + HEAD + "end",
                     HEAD + "chain main\ndefault drop\nend", HEAD + "default drop\nend", HEAD + "\nend"]:
            with self.assertRaises(BadText, msg=text):
                loaded(text)

    def test_spoilt_texts(self):
        source = random.Random(373)
        answers = {True: 0, False: 0}
        for _ in range(1500):
            gate = busy_gate(source)
            lines = dumped(gate).split("\n")
            # Mostly behind the book, of which other tests tell.
            k = source.choice((0, 0, len(write_book(gate.book()).split("\n")) + 1))
            text = "\n".join(lines[:k] + spoilt_lines(source, lines[k:]))
            try:
                found = loaded(text)
            except BadText:
                self.assertFalse(is_dump(text), text)
                answers[False] += 1
                continue
            self.assertEqual(plain_dump(found), text)
            answers[True] += 1
        self.assertGreater(min(answers.values()), 80, answers)


def is_dump(text):
    """True if a text is a dump; the lines of its exchange and book are those of a gate that is made of them."""
    lines = text.split("\n")
    rest = [line for line in lines if line.split(" ")[0] in ("talk", "count")]
    if not lines or lines[-1] != "end":
        return False
    head = "\n".join(lines[:len(lines) - len(rest) - 1] + ["end"])
    try:
        loaded(head)
    except BadText:
        return False
    if lines[len(lines) - len(rest) - 1:-1] != rest:
        return False
    talks, counts = [], []
    for line in rest:
        word, *items = line.split(" ")
        try:
            numbers = [int(item) for item in items]
        except ValueError:
            return False
        if [str(number) for number in numbers] != items or len(numbers) != (6 if word == "talk" else 2):
            return False
        if any(abs(number) > 9999999999 for number in numbers):
            return False
        (talks if word == "talk" else counts).append(tuple(numbers))
    if [line.split(" ")[0] for line in rest] != ["talk"] * len(talks) + ["count"] * len(counts):
        return False
    keys = [item[:5] for item in talks]
    numbers = [item[0] for item in counts]
    if keys != sorted(set(keys)) or numbers != sorted(set(numbers)):
        return False
    for kind, first, port, second, far, state in talks:
        if kind not in (6, 17) or not 0 <= first < second <= 65535 or not (0 <= port <= 65535 and 0 <= far <= 65535):
            return False
        if state == 0 or abs(state) > {6: 4, 17: 2}[kind]:
            return False
    return all(0 <= number <= 99 and often > 0 for number, often in counts)


if __name__ == "__main__":
    unittest.main()
