"""Point 9.1: watches."""

import random
import unittest

from gatewarden.views import FIELDS, TOPS
from gatewarden.watches import comes_true, is_watch
from tests.bookhelp import B, DECISIONS
from tests.helpers import Trap, nested, odd_values, resized, spoilt
from tests.historyhelp import (
    ACCEPT, ALL, DROP, KEEPER, NOTHING, books_in, only, plain_comes_true, random_history, random_watch,
)

WATCHES = [
    ("part", (B,), (B, KEEPER)),
    ("get", (B, ALL), (("flags", ((1, 1),)), ("length", ((20, 40), (60, 1500)))), ("refuse", 0)),
    ("break", B, KEEPER),
    ("meet", B, (1, 0)),
]


def stream(interface, flags, by_opener=True, length=20, ports=(7, 80)):
    ends = (9, ports[0], 4, ports[1]) if by_opener else (4, ports[1], 9, ports[0])
    return (interface, 6) + ends + (flags, 0, length)


OPEN = (stream(0, 1), stream(1, 1, False))
TALK = OPEN + (stream(0, 0), stream(0, 2), stream(1, 2, False))


class IsWatch(unittest.TestCase):
    def test_watches(self):
        for watch in WATCHES:
            self.assertIs(is_watch(watch), True)
        source = random.Random(131)
        for _ in range(100):
            self.assertIs(is_watch(random_watch(source)), True)

    def test_rows(self):
        for many in range(6):
            row = (B, ALL, KEEPER, B, ALL)[:many]
            right = 1 <= many <= 3
            self.assertIs(is_watch(("part", row, (B,))), right)
            self.assertIs(is_watch(("part", (B,), row)), right)
            self.assertIs(is_watch(("get", row, (), DROP)), right)
        self.assertIs(is_watch(("part", B, B)), False)
        self.assertIs(is_watch(("part", [B], (B,))), False)
        self.assertIs(is_watch(("get", B, (), DROP)), False)

    def test_books(self):
        for other in [(B,), (), None, [B], (("main", (), ("back",)),), "B"]:
            self.assertIs(is_watch(("break", B, other)), False)
            self.assertIs(is_watch(("break", other, B)), False)
            self.assertIs(is_watch(("meet", other, (0, 0))), False)
        self.assertIs(is_watch(("break", NOTHING, NOTHING)), True)

    def test_conditions(self):
        for field, top in zip(FIELDS, TOPS):
            right = field not in ("talk", "side")
            self.assertIs(is_watch(("get", (B,), ((field, ((0, top),)),), DROP)), right, field)
            self.assertIs(is_watch(("get", (B,), ((field, ()),), DROP)), right, field)
            self.assertIs(is_watch(("get", (B,), ((field, ((0, top + 1),)),), DROP)), False, field)
        for field in ("mark", "word", "", 3, None, ("kind",)):
            self.assertIs(is_watch(("get", (B,), ((field, ((0, 1),)),), DROP)), False, field)
            self.assertIs(is_watch(("get", (B,), (("kind", ((6, 6),)), (field, ((0, 1),))), DROP)), False, field)
        condition = ("kind", ((6, 6),))
        for many in range(7):
            self.assertIs(is_watch(("get", (B,), (condition,) * many, DROP)), many <= 4)
        self.assertIs(is_watch(("get", (B,), [condition], DROP)), False)
        self.assertIs(is_watch(("get", (B,), condition, DROP)), False)

    def test_decisions(self):
        for decision in DECISIONS + [("refuse", 255)]:
            self.assertIs(is_watch(("get", (B,), (), decision)), True)
        for decision in [("back",), ("jump", "inner"), ("mark", 1), ("refuse", 256), ("refuse", True), "drop", ["drop"], ()]:
            self.assertIs(is_watch(("get", (B,), (), decision)), False)

    def test_places(self):
        places = [(0, 0), (0, 1), (1, 0)]
        for i in range(-2, 4):
            for k in range(-2, 4):
                self.assertIs(is_watch(("meet", B, (i, k))), (i, k) in places)
        for place in [0, (0,), (0, 0, 0), [0, 0], (0, 0.0), (False, False), (True, 0), ("0", 0), (0, None), Trap(), (Trap(), 0)]:
            self.assertIs(is_watch(("meet", B, place)), False)
        self.assertIs(is_watch(("meet", NOTHING, (0, 0))), False)

    def test_other_words(self):
        for word in ("part", "get", "break", "meet", "", "Part", "parts", "hide", None, 1, True, b"part", ("part",), Trap()):
            for watch in WATCHES:
                right = type(word) is str and word == watch[0]
                self.assertIs(is_watch((word,) + watch[1:]), right)

    def test_too_many_items(self):
        for watch in WATCHES:
            for value in resized(watch):
                self.assertIs(is_watch(value), False)
            for item in (None, (), B, (B,), DROP):
                self.assertIs(is_watch(watch + (item,)), False)

    def test_any_value(self):
        for value in odd_values():
            self.assertIs(is_watch(value), False)
            for watch in WATCHES:
                for k in range(len(watch)):
                    # No condition at all is right, so an empty tuple may stand there.
                    if not (watch[0] == "get" and k == 2 and type(value) is tuple and not value):
                        self.assertIs(is_watch(watch[:k] + (value,) + watch[k + 1:]), False)
        for watch in [("part", (KEEPER,), (ALL,)), ("get", (ALL,), (("kind", ((1, 1),)),), ("refuse", 1)),
                      ("break", ALL, KEEPER), ("meet", KEEPER, (0, 1))]:
            self.assertIs(is_watch(watch), True)
            for value in spoilt(watch):
                self.assertIs(is_watch(value), False, value)
            self.assertIs(is_watch(nested(watch, 150)), False)


class ComesTrue(unittest.TestCase):
    def check(self, watch, history, wanted):
        self.assertIs(is_watch(watch), True)
        self.assertEqual(comes_true(watch, history), wanted)
        if wanted is not None:
            for many in range(len(history)):
                self.assertEqual(comes_true(watch, history[:many]), wanted if wanted < many else None)

    def test_part(self):
        self.check(("part", (ALL,), (NOTHING,)), TALK, 0)
        self.check(("part", (ALL,), (ALL, ALL)), TALK, None)
        self.check(("part", (KEEPER,), (ALL,)), TALK, None)
        self.check(("part", (KEEPER,), (ALL,)), (stream(0, 0),), 0)
        self.check(("part", (KEEPER, KEEPER), (KEEPER,)), TALK, None)
        late = only(("talk", ((4, 4),)), action=("refuse", 1), default=ACCEPT)
        self.check(("part", (late,), (ALL,)), TALK, 4)
        self.check(("part", (ALL, late, ALL), (ALL, ALL)), TALK, 4)

    def test_part_with_refusals(self):
        first, second = (("a", (), ("refuse", 1)),), (("a", (), ("refuse", 2)),)
        self.check(("part", (first,), (second,)), TALK, 0)
        self.check(("part", (first, second), (first,)), TALK, 1)
        self.check(("part", (first, second), (first, NOTHING)), (stream(0, 1),) * 3, None)

    def test_get(self):
        self.check(("get", (ALL,), (), ACCEPT), TALK, 0)
        self.check(("get", (ALL,), (), DROP), TALK, None)
        self.check(("get", (KEEPER,), (("interface", ((1, 1),)),), ACCEPT), TALK, 1)
        self.check(("get", (KEEPER,), (("flags", ((2, 2),)),), ACCEPT), TALK, 3)
        self.check(("get", (KEEPER,), (("flags", ((2, 2),)), ("interface", ((1, 1),))), ACCEPT), TALK, 4)
        self.check(("get", (KEEPER,), (("flags", ((2, 2),)), ("sport", ((80, 80),))), DROP), TALK + (TALK[-1],), 5)
        self.check(("get", (KEEPER,), (("flags", ()),), ACCEPT), TALK, None)
        self.check(("get", (KEEPER,), (("length", ((21, 1500),)),), ACCEPT), TALK, None)

    def test_get_with_books_on_talk_side_and_mark(self):
        book = (("main", (
            ((("talk", ((2, 2),)), ("side", ((1, 1),))), ("mark", 3)),
            ((("mark", ((3, 3),)), ("flags", ((1, 1),))), ("refuse", 5)),
        ), ACCEPT),)
        self.check(("get", (book,), (), ("refuse", 5)), TALK, 1)
        self.check(("get", (book,), (), ("refuse", 5)), (stream(0, 1), stream(0, 1), stream(1, 1, False)), 2)
        self.check(("get", (book,), (("sport", ((80, 80),)),), ("refuse", 5)), TALK, 1)
        self.check(("get", (book,), (("sport", ((0, 79),)),), ("refuse", 5)), TALK, None)

    def test_get_of_a_row_that_stops_in_the_middle(self):
        row = (ALL, (("main", (), ("refuse", 9)),), NOTHING)
        self.check(("get", row, (), ("refuse", 9)), (stream(1, 1), stream(0, 1)), 1)
        self.check(("get", row, (), DROP), (stream(0, 1), stream(1, 1)), 1)

    def test_break(self):
        self.check(("break", ALL, NOTHING), TALK, 1)
        self.check(("break", ALL, NOTHING), (stream(0, 1),), None)
        self.check(("break", KEEPER, ALL), TALK, None)
        self.check(("break", ALL, KEEPER), TALK, None)
        late = only(("talk", ((4, 4),)), action=("refuse", 1), default=ACCEPT)
        self.check(("break", KEEPER, late), TALK, 4)
        self.check(("break", late, NOTHING), TALK, 1)

    def test_break_at_a_state_0_and_at_a_wrong_move(self):
        opens = only(("talk", ((2, 6),)))
        # The new book lets no talk be opened, which breaks none that lives.
        self.check(("break", ALL, opens), TALK, None)
        moves = only(("talk", ((6, 6),)), action=DROP, default=ACCEPT)
        wrong = OPEN + (stream(0, 1), stream(0, 7), stream(0, 3))
        self.check(("break", ALL, moves), wrong, None)
        self.check(("break", ALL, NOTHING), (stream(0, 2), stream(0, 0), stream(0, 1)), None)
        # Where the old book does not accept, nothing is broken.
        self.check(("break", only(("flags", ((1, 1),))), ALL), TALK, None)
        self.check(("break", only(("flags", ((1, 1),))), only(("flags", ((0, 0),)))), TALK, 1)
        # Kinds without talks have no talk to be broken.
        self.check(("break", ALL, NOTHING), ((0, 1, 9, 0, 4, 0, 0, 3, 30), (1, 50, 4, 0, 9, 0, 0, 0, 30)), None)

    def test_meet(self):
        self.check(("meet", B, (0, 1)), TALK, 0)
        self.check(("meet", B, (1, 0)), TALK, 0)
        self.check(("meet", B, (0, 0)), TALK, 1)
        self.check(("meet", B, (1, 0)), (stream(0, 1, ports=(7, 81)),), None)
        self.check(("meet", B, (0, 1)), (stream(0, 1, ports=(7, 81)),), 0)
        refusing = (("main", (((("talk", ((3, 3),)),), ("refuse", 1)), ((("mark", ((1, 1),)),), DROP)), ACCEPT),)
        self.check(("meet", refusing, (0, 0)), TALK, 2)
        self.check(("meet", refusing, (0, 1)), TALK, None)

    def test_no_sight(self):
        for watch in WATCHES:
            self.assertIsNone(comes_true(watch, ()))

    def test_of_several_keys(self):
        mixed = (stream(0, 1), stream(0, 1, ports=(8, 80)), (0, 17, 9, 7, 4, 80, 0, 0, 18), stream(1, 1, False), stream(0, 0))
        self.check(("meet", KEEPER, (0, 0)), mixed, 3)
        self.check(("get", (KEEPER,), (("flags", ((0, 0),)), ("kind", ((6, 6),))), ACCEPT), mixed, 4)

    def test_against_another_run(self):
        source = random.Random(132)
        found = {}
        for _ in range(400):
            watch = random_watch(source)
            for _ in range(3):
                history = random_history(source, books_in(watch))
                number = comes_true(watch, history)
                self.assertEqual(number, plain_comes_true(watch, history))
                self.assertIn(type(number), (int, type(None)))
                word = (watch[0], "never" if number is None else "late" if number else "first")
                found[word] = found.get(word, 0) + 1
        self.assertEqual(len(found), 11, found)


if __name__ == "__main__":
    unittest.main()
