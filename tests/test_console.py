"""Point 17.3: the console."""

import inspect
import random
import re
import unittest

from gatewarden.books import is_book, rule_places
from gatewarden.booktexts import read_book, write_book, write_sight
from gatewarden.console import Console
from gatewarden.errors import BadLine
from gatewarden.gate import Gate
from gatewarden.needed import hidden_rules, needless_rules
from gatewarden.packets import write_packet
from gatewarden.plans import plan_of
from gatewarden.prefixes import exchanged
from gatewarden.questions import shortest
from gatewarden.views import packet_of
from tests.bookhelp import B
from tests.historyhelp import late_book, random_history, small_fields
from tests.test_booktexts import number_of
from tests.test_views import random_sight
from tests.texthelp import any_book, spoilt_line

OK = ["ok"]
B_LINES = [
    "book b drop", "chain b inner refuse 3", "rule b 1 0 rule dport=80 accept", "rule b 0 0 rule talk=2-5 accept",
    "rule b 0 1 rule interface=0 talk=1 jump inner",
]


def entered(*lines):
    """A console at which some lines were entered, each with the result `ok`."""
    console = Console()
    for line in lines:
        found = console.enter(line)
        assert found == OK, (line, found)
    return console


def error(name):
    return ["error " + name]


def whole_state(console, books="abcdefghijkl", gates="abcdefghijkl"):
    """All that a console tells of the books and gates of some names."""
    return [console.enter("show " + word) for word in books] + [console.enter("dump " + word) for word in gates]


class Commands(unittest.TestCase):
    def lines(self, console, *pairs):
        for line, wanted in pairs:
            found = console.enter(line)
            self.assertEqual(found, [wanted] if isinstance(wanted, str) else wanted, line)
            self.assertIs(type(found), list)

    def test_interface(self):
        self.assertEqual(list(inspect.signature(Console).parameters), [])
        self.assertEqual(list(inspect.signature(vars(Console)["enter"]).parameters), ["self", "line"])

    def test_book(self):
        self.lines(
            Console(), ("book a drop", "ok"), ("show a", ["chain main", "default drop"]), ("book a refuse 255", "ok"),
            ("show a", ["chain main", "default refuse 255"]), ("book a accept", "ok"), ("show a", ["chain main", "default accept"]),
            *[(f"book {word} drop", "ok") for word in "bcdefgh"], ("book i drop", "error Full"), ("book h accept", "ok"), ("drop h", "ok"),
            ("book i drop", "ok"), ("show h", "error Unknown"))

    def test_rules(self):
        console = entered(*B_LINES)
        self.assertEqual(console.enter("show b"), write_book(B).split("\n"))
        self.lines(
            console, ("rule b 0 3 rule drop", "error NoPlace"), ("rule b 2 0 rule drop", "error NoPlace"), ("rule b 0 2 rule drop", "ok"),
            ("rule b 9999999999 0 rule drop", "error NoPlace"), ("rule b 0 9999999999 rule drop", "error NoPlace"),
            ("rule x 0 0 rule drop", "error Unknown"), ("rule x 9 9 rule back", "error Unknown"), ("rule b 0 0 rule back", "error BadBook"),
            ("rule b 9 0 rule back", "error NoPlace"), ("rule b 0 0 rule jump main", "error BadBook"), ("rule b 0 0 rule jump other", "error BadBook"),
            ("rule b 1 0 rule back", "ok"), ("rule b 1 1 rule jump inner", "error BadBook"), ("rule b 1 1 rule mark=1 source=none,1 drop", "error BadText"),
            ("rule b 1 1 rule mark=1 source=none mark=255 code=0-65535 count 99", "ok"),
            ("show b", ["chain main", "rule talk=2-5 accept", "rule interface=0 talk=1 jump inner", "rule drop", "default drop", "chain inner",
                        "rule back", "rule mark=1 source=none mark=255 code=0-65535 count 99", "rule dport=80 accept", "default refuse 3"]))

    def test_too_many_rules_and_chains(self):
        console = entered("book a drop", *["rule a 0 0 rule drop"] * 20)
        self.lines(console, ("rule a 0 0 rule drop", "error BadBook"), ("rule a 0 21 rule drop", "error NoPlace"), ("rule a 0 20 rule drop", "error BadBook"))
        self.lines(console, *[(f"chain a {word} back", "ok") for word in "bcdef"], ("chain a g back", "error BadBook"))

    def test_unrule(self):
        console = entered(*B_LINES)
        self.lines(
            console, ("unrule b 0 2", "error NoPlace"), ("unrule b 2 0", "error NoPlace"), ("unrule x 0 0", "error Unknown"), ("unrule b 0 0", "ok"),
            ("unrule b 0 1", "error NoPlace"), ("unrule b 1 0", "ok"), ("unrule b 1 0", "error NoPlace"),
            ("show b", ["chain main", "rule interface=0 talk=1 jump inner", "default drop", "chain inner", "default refuse 3"]))

    def test_chain(self):
        self.lines(
            entered("book a drop"), ("chain a b back", "ok"), ("chain a c refuse 0", "ok"), ("chain a b drop", "error BadBook"),
            ("chain a main drop", "error BadBook"), ("chain x b drop", "error Unknown"), ("chain x main back", "error Unknown"),
            ("show a", ["chain main", "default drop", "chain b", "default back", "chain c", "default refuse 0"]))

    def test_books_and_gates(self):
        self.lines(
            entered("book a drop", "book b accept"), ("gate g a none", "ok"), ("gate g b none", "error Taken"), ("gate h x none", "error Unknown"),
            ("gate g x none", "error Unknown"), ("gate h b 256/8=512/8, 0/16=1/16", "ok"), ("drop a", "error InUse"), ("drop x", "error Unknown"),
            ("drop g", "error Unknown"), ("put g b", "ok"), ("drop a", "ok"), ("put g a", "error Unknown"), ("put x b", "error Unknown"),
            ("ungate x", "error Unknown"), ("ungate b", "error Unknown"), ("ungate g", "ok"), ("ungate g", "error Unknown"), ("gate i b none", "ok"),
            ("gate j b none", "ok"), ("gate k b none", "ok"), ("gate l b none", "error Full"), ("gate k b none", "error Taken"),
            ("gate l x none", "error Unknown"), ("dump h", ["exchange 256/8=512/8, 0/16=1/16", "chain main", "default accept", "end"]), ("drop b", "error InUse"))

    def test_see(self):
        console = entered("book a drop", "rule a 0 0 rule talk=2-5 accept", "rule a 0 1 rule interface=0 talk=1 accept", "rule a 0 2 rule kind=17 refuse 4",
                          "rule a 0 3 rule kind=1 refuse 4", "gate g a none")
        self.lines(
            console, ("talks g", "0"), ("see g 1 17 4 80 9 7 0 0 18", "back"), ("see g 0 17 9 7 4 80 0 0 18", "out"), ("talks g", "1"),
            ("see g 1 17 4 80 9 7 0 0 18", "out"), ("see g 0 1 9 0 4 0 0 8 16", "dropped book"), ("see g 1 6 4 80 9 7 1 0 20", "dropped book"),
            ("see g 0 6 9 7 4 80 1 0 1500", "out"), ("talks g", "2"), ("see g 1 6 4 80 9 7 4 0 20", "out"), ("talks g", "1"),
            ("see x 0 17 9 7 4 80 0 0 18", "error Unknown"), ("see x 1 17 9 7 4 80 0 0 18", "error Unknown"), ("see g 0 17 9 7 4 80 0 0", "error BadText"),
            ("see g 0 17 9 7 9 80 0 0 18", "error BadText"), ("see g 0 17 9 7 4 80 0 0 17", "error BadText"), ("see g 0 17 9 7 4 80 1 0 18", "error BadText"),
            ("dump g", ["exchange none", "chain main", "rule talk=2-5 accept", "rule interface=0 talk=1 accept", "rule kind=17 refuse 4",
                        "rule kind=1 refuse 4", "default drop", "talk 17 4 80 9 7 -2", "end"]), ("talks x", "error Unknown"))

    def test_see_at_a_gate_with_an_exchange(self):
        # The gate must see the very addresses of the line, for both interfaces.
        for interface in (0, 1):
            for source, destination in [(300, 4), (4, 300), (556, 4), (4, 556), (300, 556), (556, 300), (300, 301), (9, 4)]:
                console = entered("book a drop", f"rule a 0 0 rule interface={interface} source={source} destination={destination} accept",
                                  "gate g a 256/8=512/8")
                line = f"see g {interface} 17 {source} 7 {destination} 80 0 0 18"
                self.lines(console, (line, "out"), ("talks g", "1"))
                first, second = sorted([(source, 7), (destination, 80)])
                state = 1 if first[0] == source else -1
                self.assertIn(f"talk 17 {first[0]} {first[1]} {second[0]} {second[1]} {state}", console.enter("dump g"))

    def test_see_against_a_gate(self):
        source = random.Random(391)
        exchange = (((256, 8), (512, 8)),)
        for _ in range(30):
            fields = small_fields(source)
            book = late_book(source, fields)
            console, gate = console_with(book, "256/8=512/8"), Gate(book, exchange)
            for sight in random_history(source, [book], 14):
                packet = packet_of(sight)
                if sight[0] == 1:
                    packet = (packet[0], exchanged(exchange, packet[1])) + packet[2:]
                result = gate.receive(sight[0], write_packet(packet))
                wanted = " ".join(result) if result[0] == "dropped" else result[0]
                self.assertEqual(console.enter("see g " + write_sight(sight)), [wanted])
                self.assertEqual(console.enter("talks g"), [str(len(gate.talks()))])
            self.assertIn("exchange 256/8=512/8", console.enter("dump g"))

    def test_show_and_dump(self):
        console = entered(*B_LINES, "gate g b none")
        self.lines(console, ("show b", write_book(B).split("\n")), ("dump g", ["exchange none", *write_book(B).split("\n"), "end"]),
                   ("show g", "error Unknown"), ("dump b", "error Unknown"), ("show x", "error Unknown"), ("dump x", "error Unknown"))

    def test_questions(self):
        console = entered(*B_LINES, "book a accept", "book n drop", "rule n 0 0 rule interface=0 accept", "rule n 0 1 rule interface=0 source=5 refuse 1",
                          "rule n 0 2 rule interface=1 drop", "book keeper drop", "rule keeper 0 0 rule talk=2-5 accept",
                          "rule keeper 0 1 rule interface=0 talk=1 accept")
        self.lines(
            console, ("alike b b", "yes"), ("alike a b", "no 1"), ("alike b keeper", "no 1"), ("alike b x", "error Unknown"), ("alike x b", "error Unknown"),
            ("hidden b", "none"), ("hidden n", "0.1"), ("needless n", "0.1 0.2"), ("needless b", "none"), ("hidden a", "none"), ("hidden x", "error Unknown"),
            ("needless x", "error Unknown"), ("size a", "0"), ("size n", "1"), ("size b", str(len(plan_of(B)[0]))), ("size x", "error Unknown"))

    def test_alike_after_several_sights(self):
        console = entered("book a accept", "book b accept", "rule b 0 0 rule talk=4 drop")
        self.lines(console, ("alike a b", "no " + str(shortest(("part", ((("main", (), ("accept",)),),), ((("main", (((("talk", ((4, 4),)),), ("drop",)),),
                   ("accept",)),),))))), ("alike b a", "no 4"))

    def test_questions_against_functions(self):
        source = random.Random(392)
        for _ in range(20):
            book = late_book(source, small_fields(source))
            console = console_with(book)
            for word, function in (("hidden", hidden_rules), ("needless", needless_rules)):
                places = function(book)
                wanted = " ".join(f"{i}.{k}" for i, k in places) or "none"
                self.lines(console, (f"{word} a", wanted))
            self.lines(console, ("size a", str(len(plan_of(book)[0]))))

    def test_undo(self):
        console = entered(*B_LINES, "gate g b 256/8=512/8", "book n drop")
        console.enter("see g 0 17 9 7 4 80 0 0 18")
        for line in ["book b accept", "book z drop", "rule b 0 0 rule drop", "unrule b 0 0", "chain b z back", "drop n", "gate h b none", "ungate g", "put g n",
                     "see g 1 17 4 80 9 7 0 0 18", "see g 0 17 9 7 4 81 0 0 18"]:
            before = whole_state(console, "bnz", "gh")
            self.assertNotEqual(console.enter(line)[0][:5], "error")
            self.assertEqual(console.enter("undo"), OK)
            self.assertEqual(whole_state(console, "bnz", "gh"), before, line)
        for line in ["talks g", "show b", "dump g", "alike b b", "hidden b", "needless b", "size b", "show x", "x", "drop b", "undo x"]:
            # What only asks, and what is refused, is no deed.
            console.enter("book n accept")
            console.enter(line)
            self.assertEqual(console.enter("undo"), OK)
            self.assertEqual(console.enter("show n"), ["chain main", "default drop"], line)
        for _ in range(len(B_LINES) + 3):
            self.assertEqual(console.enter("undo"), OK)
        self.assertEqual(console.enter("undo"), error("NothingToUndo"))
        self.assertEqual(whole_state(console), [error("Unknown")] * 24)

    def test_consoles_are_apart(self):
        console, other = entered("book a drop"), Console()
        self.assertEqual(other.enter("show a"), error("Unknown"))
        self.assertEqual(console.enter("show a"), ["chain main", "default drop"])


def console_with(book, exchange="none"):
    """A console with a book under the name a, entered line by line, in a gate g."""
    console = Console()
    word, _, default = book[0]
    assert word == "main"
    lines = ["book a " + " ".join(map(str, default))]
    lines += [f"chain a {word} " + " ".join(map(str, default)) for word, _, default in book[1:]]
    texts = write_book(book).split("\n")
    rules = [text for text in texts if text.startswith("rule")]
    lines += [f"rule a {i} {k} {text}" for (i, k), text in zip(rule_places(book), rules)]
    for line in lines + ["gate g a " + exchange]:
        assert console.enter(line) == OK, line
    return console


WORD = "[a-z]{1,12}"
NUMBER = "(?:0|[1-9][0-9]{0,9})"


def is_rule_text(text):
    """True if a text is that of a rule, asked by a book around it."""
    if not text.startswith("rule") or "\n" in text:
        return False
    words = re.findall("jump (" + WORD + ")$", text)
    word = words[0] if words else "xxxxxxxxxxxx"
    first = "zzzzzzzzzzzz" if word != "zzzzzzzzzzzz" else "yyyyyyyyyyyy"
    second = "wwwwwwwwwwww" if word != "wwwwwwwwwwww" else "vvvvvvvvvvvv"
    try:
        read_book(f"chain {first}\ndefault drop\nchain {second}\n{text}\ndefault drop\nchain {word}\ndefault drop")
    except BadLine:
        return False
    return True


def is_decision_text(text, back=False):
    found = re.fullmatch("accept|drop|refuse (" + NUMBER + ")" + ("|back" if back else ""), text)
    return found is not None and int(found.group(1) or 0) <= 255


def is_exchange_text(text):
    from gatewarden.booktexts import read_exchange
    from gatewarden.errors import BadText
    try:
        read_exchange(text)
    except BadText:
        return False
    return True


def is_sight_text(text):
    from gatewarden.views import is_sight
    return is_sight(tuple(number_of(item) for item in text.split(" ")))


FORMS = [
    (f"book {WORD} (.*)", is_decision_text), (f"rule {WORD} {NUMBER} {NUMBER} (.*)", is_rule_text), (f"unrule {WORD} {NUMBER} {NUMBER}()", None),
    (f"chain {WORD} {WORD} (.*)", lambda text: is_decision_text(text, True)), (f"(?:drop|ungate|talks|show|dump|hidden|needless|size) {WORD}()", None),
    (f"gate {WORD} {WORD} (.*)", is_exchange_text), (f"(?:put|alike) {WORD} {WORD}()", None), (f"see {WORD} (.*)", is_sight_text), ("undo()", None),
]


def has_form(line):
    """True if a line has one of the forms."""
    for form, test in FORMS:
        found = re.fullmatch(form, line)
        if found and (test is None or test(found.group(1))):
            return True
    return False


class Forms(unittest.TestCase):
    """Lines that have one of the forms, and lines that have none."""

    def check(self, console, line):
        found = console.enter(line)
        self.assertEqual(found == error("BadText"), not has_form(line), line)
        self.assertTrue(found and all(isinstance(text, str) and "\n" not in text for text in found))
        return found

    def test_lines_of_no_form(self):
        console = entered("book a drop", "book b accept", "gate g a none")
        before = whole_state(console)
        for line in [
            "", " ", "x", "ok", "book", "book a", "book a back", "book a refuse", "book a refuse 256", "book a refuse 03", "book a refuse -3", "book a refuse +3",
            "book a refuse 00000000001", "book a drop drop", "book A drop", "book a1 drop", "book aaaaaaaaaaaaa drop", "book  a drop", " book a drop",
            "book a drop ", "book a  drop", "Book a drop", "book a jump b", "book a mark 3", "book a count 3", "rule a 0 0", "rule a 0 rule drop", "rule a rule drop",
            "rule a 0 0 drop", "rule a 0 0 rule", "rule a 0 0 rule drop ", "rule a 00 0 rule drop", "rule a 0 -1 rule drop", "rule a +0 0 rule drop",
            "rule a 0 00000000000 rule drop", "rule a 10000000000 0 rule drop", "rule a 0.0 rule drop", "rule a 0 0 rule  drop", "rule a 0 0  rule drop",
            "rule a 0 0 rule talk=7 drop", "rule a 0 0 rule x=1 drop", "rule a 0 0 rule talk=1 talk=1 talk=1 talk=1 talk=1 drop", "rule a 0 0 rule count 100",
            "rule a 0 0 rule jump", "rule a 0 0 rule jump A", "rule 0 0 a rule drop", "unrule a", "unrule a 0", "unrule a 0 0 0", "unrule a 0 x", "unrule 0 0 a",
            "unrule a 0 00", "chain a b", "chain a", "chain a b jump c", "chain a b mark 1", "chain a b back back", "chain a B back", "chain a b c drop", "drop",
            "drop a b", "drop A", "gate g a", "gate g", "gate g a none none", "gate g a 256/8=512/9", "gate g a ", "gate g none", "gate x a 1/16=2/16,3/16=4/16",
            "gate x a 1/16=2/16,  3/16=4/16", "ungate", "ungate g g", "put g", "put g a b", "put g 5", "see g", "see", "see g 0 17 9 7 4 80 0 0",
            "see g 0 17 9 7 4 80 0 0 18 0", "see g 0 17 9 7 4 80 0 0 018", "see g 0 17 9 7 4 80 0 0 -18", "see 0 17 9 7 4 80 0 0 18", "talks", "talks g g", "show",
            "show a b", "dump", "dump g ", "alike a", "alike a b c", "alike", "hidden", "hidden a b", "needless", "size", "size a a", "undo x", "undo ", " undo",
            "undo undo", "Undo", "redo", "book a\tdrop", "rule a 0 0 rule talk=1-1 drop", "rule a 0 0 Rule drop",
        ]:
            self.assertIs(has_form(line), False, line)
            self.assertEqual(self.check(console, line), error("BadText"), line)
        self.assertEqual(whole_state(console), before)

    def test_forms_come_before_names(self):
        # A line of no form tells BadText, whatever else is wrong with it.
        console = Console()
        for line, wanted in [
            ("drop x", "Unknown"), ("drop X", "BadText"), ("rule x 5 5 rule drop", "Unknown"), ("rule x 5 5 rule", "BadText"), ("chain x main back", "Unknown"),
            ("gate g x none", "Unknown"), ("gate g x no", "BadText"), ("see g 0 17 9 7 4 80 0 0 18", "Unknown"), ("see g 0 17 9 7 9 80 0 0 18", "BadText"),
            ("undo", "NothingToUndo"), ("undo now", "BadText"), ("put g x", "Unknown"), ("unrule x 0 0", "Unknown"), ("alike x y", "Unknown"),
        ]:
            self.assertEqual(self.check(console, line), error(wanted), line)

    def test_by_chance(self):
        source = random.Random(393)
        counts = {}
        for turn in range(8):
            console = Console()
            for _ in range(220):
                line = random_line(source)
                if source.random() < 0.25:
                    line = spoilt_line(source, line)
                before = whole_state(console, "abcdefghi", "abcd")
                found = self.check(console, line)
                counts[found[0] if len(found) == 1 and found[0][:5] == "error" else "done"] = True
                if found[0].startswith("error"):
                    self.assertEqual(whole_state(console, "abcdefghi", "abcd"), before, line)
                for word in "abcdefghi":
                    text = console.enter("show " + word)
                    self.assertTrue(text == error("Unknown") or is_book(read_book("\n".join(text))))
        for name in ("BadText", "Unknown", "NoPlace", "BadBook", "InUse", "Taken", "Full"):
            self.assertIn("error " + name, counts)


def random_line(source):
    """A line that mostly has one of the forms, over few names."""
    book, other, gate = source.choice("abcdefghi"), source.choice("abc"), source.choice("abcde")
    place = f"{source.choice('0001')} {source.choice('0012')}"
    rules = [line for line in write_book(any_book(source, 2)).split("\n") if line.startswith("rule")] or ["rule drop"]
    decision = source.choice(["accept", "drop", "refuse 3"])
    return source.choice([
        f"book {book} {decision}", f"book {book} {decision}", f"rule {other} {place} {source.choice(rules)}", f"rule {other} {place} {source.choice(rules)}",
        f"unrule {other} {place}", f"chain {other} {source.choice('abc')} {source.choice([decision, 'back'])}", f"drop {book}",
        f"gate {gate} {other} {source.choice(['none', '256/8=512/8'])}", f"gate {gate} {other} none", f"put {gate} {other}",
        f"see {gate} {write_sight(random_sight(source))}", f"see {gate} {write_sight(random_sight(source))}", f"talks {gate}", f"dump {gate}", f"size {other}",
        source.choice(["undo", f"ungate {gate}", f"show {other}"]),
    ])


if __name__ == "__main__":
    unittest.main()
