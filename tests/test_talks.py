"""Points 3.3 to 3.6: keys, states, moves, codes and views."""

import random
import unittest

from gatewarden.talks import key_of, moved, sender_of, side_of, talk_code, view_of
from tests.test_views import random_sight

# For each state the side and flags of what is not wrong, as point 3.4 lists it.
STREAM = {
    0: {(0, 1): 1},
    1: {(0, 1): 1, (1, 1): 2, (0, 4): 0, (1, 4): 0},
    2: {(0, 0): 2, (1, 0): 2, (0, 2): 3, (1, 2): 4, (0, 4): 0, (1, 4): 0, (0, 6): 0, (1, 6): 0},
    3: {(0, 0): 3, (1, 0): 3, (0, 2): 3, (1, 2): 0, (0, 4): 0, (1, 4): 0, (0, 6): 0, (1, 6): 0},
    4: {(0, 0): 4, (1, 0): 4, (0, 2): 0, (1, 2): 4, (0, 4): 0, (1, 4): 0, (0, 6): 0, (1, 6): 0},
}
ASKING = {0: {0: 1}, 1: {0: 1, 1: 2}, 2: {0: 2, 1: 2}}


def turned(sight):
    """The sight of the other direction."""
    interface, kind, source, sport, destination, dport, flags, code, length = sight
    return (1 - interface, kind, destination, dport, source, sport, flags, code, length)


class Keys(unittest.TestCase):
    def test_examples(self):
        sight = (0, 6, 9, 80, 4, 1, 1, 0, 20)
        self.assertEqual(key_of(sight), (6, (4, 1), (9, 80)))
        self.assertEqual(sender_of(sight), 1)
        self.assertEqual(key_of(turned(sight)), (6, (4, 1), (9, 80)))
        self.assertEqual(sender_of(turned(sight)), 0)

    def test_addresses_come_before_ports(self):
        self.assertEqual(key_of((0, 17, 4, 65535, 9, 0, 0, 0, 18)), (17, (4, 65535), (9, 0)))
        self.assertEqual(sender_of((0, 17, 4, 65535, 9, 0, 0, 0, 18)), 0)
        self.assertEqual(key_of((0, 17, 65535, 0, 0, 65535, 0, 0, 18)), (17, (0, 65535), (65535, 0)))
        self.assertEqual(sender_of((0, 17, 65535, 0, 0, 65535, 0, 0, 18)), 1)

    def test_kinds_without_talks(self):
        for kind in (0, 1, 2, 5, 7, 16, 18, 255):
            for source, destination in ((9, 4), (4, 9)):
                sight = (0, kind, source, 0, destination, 0, 0, 0, 30)
                self.assertIsNone(key_of(sight))
                self.assertEqual(sender_of(sight), 0)

    def test_turned(self):
        source = random.Random(61)
        for _ in range(400):
            sight = random_sight(source)
            if sight[1] in (6, 17):
                kind, first, second = key_of(sight)
                self.assertEqual(kind, sight[1])
                self.assertLess(first, second)
                self.assertEqual({first, second}, {(sight[2], sight[3]), (sight[4], sight[5])})
                self.assertEqual(key_of(turned(sight)), key_of(sight))
                self.assertEqual(sender_of(turned(sight)), 1 - sender_of(sight))
                self.assertEqual((first, second)[sender_of(sight)], (sight[2], sight[3]))


class Moves(unittest.TestCase):
    def test_sides(self):
        for sender in (0, 1):
            self.assertEqual(side_of(0, sender), 0)
            for number in (1, 2, 3, 4):
                self.assertEqual(side_of(number, sender), sender)
                self.assertEqual(side_of(-number, sender), 1 - sender)

    def test_streams(self):
        for number in range(5):
            for sign in (1, -1):
                for sender in (0, 1):
                    for flags in range(8):
                        state = sign * number
                        opener = sender if state == 0 else (0 if state > 0 else 1)
                        side = 0 if sender == opener else 1
                        right = STREAM[number].get((side, flags))
                        if right is not None and opener == 1:
                            right = -right
                        self.assertEqual(moved(6, state, sender, flags), right, (state, sender, flags))

    def test_askings(self):
        for number in range(3):
            for sign in (1, -1):
                for sender in (0, 1):
                    state = sign * number
                    opener = sender if state == 0 else (0 if state > 0 else 1)
                    right = ASKING[number].get(0 if sender == opener else 1)
                    if right is not None and opener == 1:
                        right = -right
                    self.assertEqual(moved(17, state, sender, 0), right, (state, sender))

    def test_by_hand(self):
        self.assertEqual(moved(6, 0, 1, 1), -1)
        self.assertEqual(moved(6, 0, 0, 1), 1)
        self.assertEqual(moved(6, -1, 0, 1), -2)
        self.assertEqual(moved(6, -1, 1, 1), -1)
        self.assertEqual(moved(6, -2, 1, 2), -3)
        self.assertEqual(moved(6, -2, 0, 2), -4)
        self.assertEqual(moved(6, 2, 1, 2), 4)
        self.assertEqual(moved(6, 3, 1, 2), 0)
        self.assertEqual(moved(6, 4, 0, 2), 0)
        self.assertIsNone(moved(6, 0, 0, 0))
        self.assertIsNone(moved(6, 0, 0, 4))
        self.assertIsNone(moved(6, 1, 0, 0))
        self.assertIsNone(moved(6, 1, 1, 6))
        self.assertIsNone(moved(6, 2, 0, 1))
        self.assertIsNone(moved(6, 3, 0, 7))
        self.assertEqual(moved(17, 0, 1, 0), -1)
        self.assertEqual(moved(17, -1, 0, 0), -2)
        self.assertEqual(moved(17, -2, 1, 0), -2)

    def test_kinds_of_values(self):
        for kind, top in ((6, 4), (17, 2)):
            for state in range(-top, top + 1):
                for sender in (0, 1):
                    for flags in range(8 if kind == 6 else 1):
                        found = moved(kind, state, sender, flags)
                        self.assertIn(type(found), (int, type(None)))
                        self.assertIs(type(talk_code(kind, state, sender, flags)), int)
                        if found is not None:
                            self.assertIn(found, range(-top, top + 1))


class Codes(unittest.TestCase):
    def test_kinds_without_talks(self):
        for kind in (0, 1, 5, 7, 16, 18, 255):
            self.assertEqual(talk_code(kind, 0, 0, 0), 0)

    def test_opening_talks_and_wrong(self):
        for sender in (0, 1):
            self.assertEqual(talk_code(6, 0, sender, 1), 1)
            self.assertEqual(talk_code(17, 0, sender, 0), 1)
            for flags in (0, 2, 3, 4, 5, 6, 7):
                self.assertEqual(talk_code(6, 0, sender, flags), 6)
        self.assertEqual(talk_code(6, -2, 0, 1), 6)
        self.assertEqual([talk_code(6, state, 0, 4) for state in (1, 2, 3, 4, -1, -2, -3, -4)], [2, 3, 4, 5] * 2)
        self.assertEqual([talk_code(17, state, 0, 0) for state in (1, 2, -1, -2)], [2, 3, 2, 3])

    def test_all(self):
        for kind, top in ((6, 4), (17, 2)):
            for state in range(-top, top + 1):
                for sender in (0, 1):
                    for flags in range(8 if kind == 6 else 1):
                        wrong = moved(kind, state, sender, flags) is None
                        self.assertEqual(talk_code(kind, state, sender, flags), 6 if wrong else abs(state) + 1)


class Views(unittest.TestCase):
    def test_items(self):
        sight = (0, 6, 9, 7, 4, 80, 1, 0, 20)
        self.assertEqual(view_of(sight, 0), sight + (1, 0))
        self.assertEqual(view_of(sight, -1), sight + (2, 0))
        self.assertEqual(view_of(sight, 1), sight + (2, 1))
        self.assertEqual(view_of(sight, 2), sight + (6, 1))
        self.assertEqual(view_of(sight, -2), sight + (6, 0))
        asking = (1, 17, 4, 80, 9, 7, 0, 0, 18)
        self.assertEqual(view_of(asking, 0), asking + (1, 0))
        self.assertEqual(view_of(asking, 2), asking + (3, 0))
        self.assertEqual(view_of(asking, -2), asking + (3, 1))

    def test_kinds_without_talks(self):
        for sight in [(0, 1, 9, 0, 4, 0, 0, 77, 16), (1, 200, 4, 0, 9, 0, 0, 0, 12)]:
            self.assertEqual(view_of(sight, 0), sight + (0, 0))

    def test_code_and_side(self):
        source = random.Random(62)
        for _ in range(300):
            sight = random_sight(source)
            top = {6: 4, 17: 2}.get(sight[1], 0)
            state = source.randint(-top, top)
            view = view_of(sight, state)
            sender = sender_of(sight)
            side = side_of(state, sender) if top else 0
            self.assertEqual(view, sight + (talk_code(sight[1], state, sender, sight[6]), side))
            self.assertIs(type(view), tuple)


if __name__ == "__main__":
    unittest.main()
