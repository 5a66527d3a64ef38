"""Points 15.1 to 15.4: texts of books, exchanges and sights."""

import random
import unittest

from gatewarden.books import is_book, is_rule
from gatewarden.booktexts import read_book, read_exchange, read_sight, write_book, write_exchange, write_sight
from gatewarden.errors import BadLine, BadText
from gatewarden.prefixes import is_exchange
from gatewarden.views import FIELDS, is_sight
from tests.bookhelp import B
from tests.test_views import random_sight
from tests.texthelp import TOP_OF, any_book, spoilt_line, spoilt_lines

ACCEPT, DROP = ("accept",), ("drop",)


def told(action):
    return " ".join(str(item) for item in action)


def told_set(a):
    return ",".join(str(low) if low == high else f"{low}-{high}" for low, high in a) or "none"


def plain_text(book):
    """The text of a book, built item by item."""
    text = ""
    for word, rules, default in book:
        text += "chain " + word + "\n"
        for conditions, action in rules:
            text += "rule" + "".join(f" {field}={told_set(a)}" for field, a in conditions) + " " + told(action) + "\n"
        text += "default " + told(default) + "\n"
    return text[:-1]


def number_of(text):
    """The number that a text has, or the text."""
    if text.isdigit() and text.isascii() and len(text) <= 10 and str(int(text)) == text:
        return int(text)
    return text


def plain_line(line):
    """What a line says, whether it can stand in a book or not: a tuple, or None."""
    items = line.split(" ")
    if items[0] == "chain" and len(items) == 2:
        return ("chain", items[1])
    if items[0] == "default":
        return ("default", tuple(map(number_of, items[1:])))
    if items[0] != "rule":
        return None
    conditions = []
    rest = items[1:]
    while rest and "=" in rest[0]:
        field, text = rest.pop(0).split("=", 1)
        pairs = [] if text == "none" else [tuple(map(number_of, (part.split("-") * 2)[:2])) for part in text.split(",")]
        if any(part.count("-") > 1 for part in text.split(",")):
            return None
        conditions.append((field, tuple(pairs)))
    rule = (tuple(conditions), tuple(map(number_of, rest)))
    return ("rule", rule) if is_rule(rule) else None


def plain_book(lines):
    """The book of some lines, or None."""
    chains = []
    is_open = False
    for line in lines:
        item = plain_line(line)
        if item is None or (item[0] == "chain") == is_open:
            return None
        if item[0] == "chain":
            chains.append([item[1], [], None])
            is_open = True
        elif item[0] == "rule":
            chains[-1][1].append(item[1])
        else:
            chains[-1][2] = item[1]
            is_open = False
    book = tuple((word, tuple(rules), default) for word, rules, default in chains)
    if is_open or not is_book(book) or plain_text(book) != "\n".join(lines):
        return None
    return book


def can_go_on(lines):
    """True if some lines are the first ones of the text of a book: ended in the shortest way they are one."""
    found = list(lines)
    items = [plain_line(line) for line in found]
    if None in items:
        return False
    if items[-1][0] != "default":
        found.append("default drop")
    words = [item[1] for item in items if item[0] == "chain"]
    for item in items:
        if item[0] == "rule" and item[1][1][0] == "jump" and item[1][1][1] not in words:
            words.append(item[1][1][1])
            found += ["chain " + words[-1], "default drop"]
    return plain_book(found) is not None


def wanted_line(text):
    """The field `line` of the error for a text, or None if it is the text of a book."""
    lines = text.split("\n")
    if plain_book(lines) is not None:
        return None
    for k in range(len(lines)):
        if not can_go_on(lines[:k + 1]):
            return k
    return len(lines)


class Books(unittest.TestCase):
    def line_of(self, text):
        """The field `line` of the error for a text, or None if a book is read."""
        try:
            book = read_book(text)
        except BadLine as error:
            return error.line
        self.assertEqual(write_book(book), text)
        return None

    def check(self, lines, wanted):
        text = "\n".join(lines) if isinstance(lines, list) else lines
        self.assertEqual(self.line_of(text), wanted, text)
        self.assertEqual(wanted_line(text), wanted, text)

    def test_example(self):
        self.assertEqual(write_book(B).split("\n"), [
            "chain main", "rule talk=2-5 accept", "rule interface=0 talk=1 jump inner", "default drop", "chain inner", "rule dport=80 accept",
            "default refuse 3"])
        self.assertEqual(read_book(write_book(B)), B)

    def test_there_and_back(self):
        source = random.Random(361)
        for _ in range(600):
            book = any_book(source)
            self.assertIs(is_book(book), True)
            text = write_book(book)
            self.assertEqual(text, plain_text(book))
            found = read_book(text)
            self.assertEqual(found, book)
            self.assertIs(is_book(found), True)

    def test_full_books(self):
        rules = ((tuple((field, ((0, 0), (TOP_OF[field], TOP_OF[field]))) for field in ("source", "mark", "talk", "code")), ("count", 99)),) * 20
        book = tuple((word, rules, DROP) for word in ("a", "b", "c", "d", "e", "zzzzzzzzzzzz"))
        self.assertEqual(read_book(write_book(book)), book)
        self.check([line for word in "abcdef" for line in ("chain " + word, "default drop")], None)
        self.check([line for word in "abcdefg" for line in ("chain " + word, "default drop")], 12)
        self.check(["chain a"] + ["rule drop"] * 20 + ["default drop"], None)
        self.check(["chain a"] + ["rule drop"] * 21 + ["default drop"], 21)

    def test_each_field_and_action(self):
        for field, top in TOP_OF.items():
            for text, good in [("0", True), (str(top), True), (f"0-{top}", True), ("none", True), (str(top + 1), False), (f"0-{top + 1}", False),
                               ("", False), ("00", False), ("1-0", False), ("0-0", False), ("0,1", False), ("-1", False), ("0-", False),
                               ("+0", False), ("0,0", False), ("12345678901", False), ("00000000001", False), ("NONE", False), ("none,0", False)]:
                self.check(["chain a", f"rule {field}={text} drop", "default drop"], None if good else 1)
        for text, good in [("accept", True), ("drop", True), ("refuse 0", True), ("refuse 255", True), ("refuse 256", False), ("refuse", False),
                           ("refuse 00", False), ("refuse 1 1", False), ("accept 1", False), ("mark 0", True), ("mark 255", True), ("mark 256", False),
                           ("mark", False), ("count 0", True), ("count 99", True), ("count 100", False), ("count x", False), ("jump", False),
                           ("jump a", False), ("jump B", False), ("back", False), ("", False), ("Drop", False), ("drop ", False), ("refuse -1", False),
                           ("jump 5", False), ("jump bbbbbbbbbbbbb", False)]:
            self.check(["chain a", f"rule {text}", "default drop"], None if good else 1)
            self.check(["chain a", f"default {text}"], None if good and text.split(" ")[0] in ("accept", "drop", "refuse") else 1)

    def test_forms_of_lines(self):
        for line in ["rule", "rule ", " rule drop", "rule  drop", "rule drop ", "Rule drop", "rule drop drop", "rule talk=1", "rule talk =1 drop",
                     "rule talk= 1 drop", "rule talk=1  drop", "rule talk=1,drop", "rule =1 drop", "rule talk drop", "rule talk==1 drop",
                     "rule drop talk=1", "rule port=1 drop", "rule talk=1 talk=2 talk=3 talk=4 talk=5 drop", "ruledrop", "rule talk=1-2-3 drop",
                     "rule talk=1;2 drop", "", " ", "chain b", "end", "rule talk=5,3 drop", "rule talk=3,3 drop", "rule talk=3-5,4 drop",
                     "rule talk=1, 3 drop", "rule\tdrop", "rule talk=~ drop"]:
            self.check(["chain a", line, "default drop"], 1)
        self.check(["chain a", "rule talk=1 talk=2 talk=3 talk=4 drop", "default drop"], None)
        self.check(["chain a", "rule talk=1 talk=1 talk=1 drop", "default drop"], None)
        for line in ["chain", "chain ", "chain A", "chain a b", "chain  a", " chain a", "chain a ", "chain a1", "chain aaaaaaaaaaaaa", "rule drop",
                     "default drop", "", "Chain a", "chaina", "chain -"]:
            self.check([line, "default drop"], 0)
            if line not in ("chain a", ):
                self.check(["chain a", "default drop", line, "default drop"], 2)
        for line in ["default", "default ", "default drop ", "default  drop", "default back", "default jump b", "default mark 1", "default count 1",
                     "Default drop", "default accept drop"]:
            self.check(["chain a", line], 1)

    def test_ends(self):
        self.check("", 0)
        self.check("\n", 0)
        self.check("chain a", 1)
        self.check("chain a\n", 1)
        self.check("chain a\nrule drop", 2)
        self.check("chain a\ndefault drop", None)
        self.check("chain a\ndefault drop\n", 2)
        self.check("chain a\ndefault drop\n\n", 2)
        self.check("\nchain a\ndefault drop", 0)
        self.check("chain a\n\ndefault drop", 1)
        self.check("chain a\ndefault drop\nchain b", 3)
        self.check("chain a\ndefault drop\ndefault drop", 2)
        self.check("chain a\ndefault drop\nrule drop", 2)
        self.check("chain a\nchain b", 1)

    def test_jumps(self):
        self.check(["chain a", "rule jump b", "default drop", "chain b", "default back"], None)
        # What is jumped to never comes: no line is wrong, but the text ends too early.
        self.check(["chain a", "rule jump b", "default drop"], 3)
        self.check(["chain a", "rule jump c", "default drop", "chain b", "default drop"], 5)
        self.check(["chain a", "rule jump c", "default drop", "chain b", "default drop", "chain c", "default drop"], None)
        # Back, and to itself.
        self.check(["chain a", "rule jump a", "default drop"], 1)
        self.check(["chain a", "default drop", "chain b", "rule jump a", "default drop"], 3)
        self.check(["chain a", "default drop", "chain b", "rule jump b", "default drop"], 3)
        # There is no room for all that are jumped to.
        jumps = [f"rule jump {word}" for word in "bcdefg"]
        self.check(["chain a", *jumps, "default drop"], 6)
        self.check(["chain a", *jumps[:5], *jumps[:5], "default drop"], 12)
        self.check(["chain a", *jumps[:5], "default drop", "chain b", "rule jump h", "default drop"], 8)
        self.check(["chain a", *jumps[:5], "default drop", "chain h", "default drop"], 7)
        self.check(["chain a", *jumps[:4], "default drop", "chain h", "default drop"], 8)
        self.check(["chain a", *jumps[:4], "default drop", "chain h", "default drop", "chain i"], 8)
        full = [line for word in "abcde" for line in (f"chain {word}", "default drop")]
        self.check([*full, "chain f", "rule jump g", "default drop"], 11)
        self.check([*full, "chain f", "rule drop", "default drop"], None)

    def test_ways_back(self):
        self.check(["chain a", "rule back", "default drop"], 1)
        self.check(["chain a", "default back"], 1)
        self.check(["chain a", "default drop", "chain b", "rule back", "default back"], None)

    def test_words_twice(self):
        self.check(["chain a", "default drop", "chain a", "default drop"], 2)
        self.check(["chain a", "default drop", "chain b", "default drop", "chain a", "default drop"], 4)
        self.check(["chain a", "rule jump b", "default drop", "chain b", "default drop", "chain b", "default drop"], 5)

    def test_spoilt_texts(self):
        source = random.Random(362)
        answers = {True: 0, False: 0}
        for _ in range(3000):
            lines = write_book(any_book(source, 3)).split("\n")
            for _ in range(source.choice((1, 1, 2))):
                lines = spoilt_lines(source, lines) or [""]
            text = "\n".join(lines)
            wanted = wanted_line(text)
            self.assertEqual(self.line_of(text), wanted, text)
            answers[wanted is None] += 1
        self.assertGreater(min(answers.values()), 100, answers)

    def test_every_beginning(self):
        text = write_book(B)
        for k in range(len(text)):
            self.check(text[:k], wanted_line(text[:k]))
            self.assertIsNotNone(wanted_line(text[:k]))
        lines = text.split("\n")
        for k in range(1, len(lines)):
            # A chain is ended and none is still jumped to behind the last line alone.
            self.check(lines[:k], k)

    def test_long_texts(self):
        self.check("rule " * 20000, 0)
        self.check("chain a\n" + "rule drop\n" * 5000, 21)
        self.check("\n" * 50000, 0)
        self.check("chain a\nrule source=" + ",".join(str(2 * k) for k in range(15000)) + " drop\ndefault drop", None)


class Exchanges(unittest.TestCase):
    def test_there_and_back(self):
        for exchange, text in [
            ((), "none"), ((((256, 8), (512, 8)),), "256/8=512/8"), ((((512, 8), (256, 8)),), "512/8=256/8"),
            ((((256, 8), (512, 8)), ((0, 16), (65535, 16))), "256/8=512/8, 0/16=65535/16"),
            ((((0, 16), (1, 16)), ((2, 16), (3, 16)), ((4, 14), (8, 14))), "0/16=1/16, 2/16=3/16, 4/14=8/14"), ((((0, 1), (32768, 1)),), "0/1=32768/1"),
        ]:
            self.assertIs(is_exchange(exchange), True)
            self.assertEqual(write_exchange(exchange), text)
            self.assertEqual(read_exchange(text), exchange)

    def test_by_chance(self):
        source = random.Random(363)
        for _ in range(300):
            bases = source.sample(range(0, 65536, 256), 6)
            length = source.choice((8, 9, 12, 16))
            exchange = tuple(((bases[k], length), (bases[k + 1], length)) for k in range(0, source.choice((0, 2, 4, 6)), 2))
            text = write_exchange(exchange)
            self.assertEqual(read_exchange(text), exchange)
            other = spoilt_line(source, text)
            try:
                found = read_exchange(other)
            except BadText:
                continue
            self.assertIs(is_exchange(found), True)
            self.assertEqual(write_exchange(found), other)

    def test_texts_of_none(self):
        for text in ["", " ", "None", "none ", " none", "none, none", "256/8", "256/8=", "=512/8", "256/8=512/8,", "256/8=512/8, ", ",256/8=512/8",
                     "256/8=512/8,0/16=1/16", "256/8=512/8,  0/16=1/16", "256/8=512/8 , 0/16=1/16", "256/8=512/8; 0/16=1/16", "256/8 =512/8", "256/8= 512/8",
                     "256/8=512/9", "256/8=256/8", "256/8=511/8", "255/8=512/8", "256/08=512/8", "0256/8=512/8", "256/8=512/8=768/8", "256/8=512/8/8",
                     "256=512", "256/8=512", "256/17=512/17", "0/0=0/0", "65536/16=0/16", "256/8=512/8, 256/8=768/8", "256/8=512/8, 300/16=301/16",
                     "256/8=512/8, none", "-1/16=0/16", "+1/16=0/16", "00000000001/16=0/16", "1/16=00000000000/16", "10000000000/16=0/16", "256/8-512/8",
                     "256/8=512/8\n", "\n", "a/8=b/8", "0/16=1/16, 2/16=1/16", "none256/8=512/8"]:
            with self.assertRaises(BadText, msg=text):
                read_exchange(text)


class Sights(unittest.TestCase):
    def test_there_and_back(self):
        source = random.Random(364)
        for _ in range(400):
            sight = random_sight(source)
            text = write_sight(sight)
            self.assertEqual(text, " ".join(map(str, sight)))
            self.assertEqual(read_sight(text), sight)
            self.assertIs(type(read_sight(text)), tuple)

    def test_example(self):
        self.assertEqual(write_sight((0, 6, 9, 80, 4, 1, 1, 0, 20)), "0 6 9 80 4 1 1 0 20")

    def test_texts_of_none(self):
        good = "0 6 9 80 4 1 1 0 20"
        self.assertEqual(read_sight(good), (0, 6, 9, 80, 4, 1, 1, 0, 20))
        items = good.split(" ")
        self.assertEqual(len(items), len(FIELDS) - 2)
        for text in ["", " ", " ".join(items[:8]), " ".join(items + ["0"]), good + " ", " " + good, good.replace(" ", "  "), good.replace(" ", ","),
                     good + "\n", good.replace("80", "080"), good.replace("80", "+80"), good.replace("80", "-80"), good.replace("80", "65536"),
                     good.replace("80", "12345678901"), good.replace("80", "00000000080"), good.replace("80", "8_0"), good.replace("80", "80.0"),
                     "2" + good[1:], good.replace("9", "4"), good.replace("20", "19"), good.replace("20", "1501"), "0 17 9 80 4 1 1 0 20",
                     "0 200 9 80 4 1 0 0 20", "0 6 9 80 4 1 1 5 20", "0 6 9 80 4 1 8 0 20", "0 256 9 0 4 0 0 0 20", "none"]:
            with self.assertRaises(BadText, msg=text):
                read_sight(text)

    def test_spoilt_texts(self):
        source = random.Random(365)
        for _ in range(1500):
            other = spoilt_line(source, write_sight(random_sight(source)))
            numbers = [number_of(item) for item in other.split(" ")]
            wanted = all(isinstance(number, int) for number in numbers) and is_sight(tuple(numbers))
            try:
                found = read_sight(other)
            except BadText:
                self.assertIs(wanted, False, other)
                continue
            self.assertIs(wanted, True, other)
            self.assertEqual(found, tuple(numbers))


if __name__ == "__main__":
    unittest.main()
