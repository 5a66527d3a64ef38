"""Point 5.1: boxes."""

import random
import unittest

from gatewarden.boxes import box_of, in_box, is_box, whole_box
from gatewarden.views import TOPS
from tests.helpers import odd_values, resized, spoilt


class Boxes(unittest.TestCase):
    def test_whole_box(self):
        self.assertEqual(whole_box(), tuple((0, top) for top in TOPS))
        self.assertIs(is_box(whole_box()), True)
        for low in (0, 1):
            self.assertIs(in_box(whole_box(), tuple(top * low for top in TOPS)), True)

    def test_ends_of_all_ranges(self):
        whole = whole_box()
        for k, top in enumerate(TOPS):
            for pair, right in [
                ((0, 0), True), ((top, top), True), ((0, top), True), ((1, 0), False), ((top, top - 1), False),
                ((0, top + 1), False), ((top + 1, top + 1), False), ((-1, 0), False), ((-1, -1), False),
            ]:
                self.assertIs(is_box(whole[:k] + (pair,) + whole[k + 1:]), right, (k, pair))

    def test_box_of(self):
        source = random.Random(81)
        for _ in range(50):
            view = tuple(source.randint(0, top) for top in TOPS)
            box = box_of(view)
            self.assertEqual(box, tuple((number, number) for number in view))
            self.assertIs(is_box(box), True)
            self.assertIs(in_box(box, view), True)
            for k, top in enumerate(TOPS):
                for number in (view[k] - 1, view[k] + 1):
                    if 0 <= number <= top:
                        self.assertIs(in_box(box, view[:k] + (number,) + view[k + 1:]), False)

    def test_in_box_at_and_beside_the_ends(self):
        middle = tuple(max(1, top // 2) for top in TOPS)
        for k, top in enumerate(TOPS):
            low, high = (middle[k] - 1, middle[k])
            box = whole_box()[:k] + ((low, high),) + whole_box()[k + 1:]
            for number in range(max(0, low - 1), min(top, high + 1) + 1):
                view = middle[:k] + (number,) + middle[k + 1:]
                self.assertIs(in_box(box, view), low <= number <= high)

    def test_any_value(self):
        for value in odd_values():
            self.assertIs(is_box(value), False)
        for box in (whole_box(), box_of((1,) * 11)):
            for value in list(spoilt(box)) + list(resized(box)):
                self.assertIs(is_box(value), False, value)
            for pair in [(), (0,), (0, 0, 0), [0, 0], 0]:
                self.assertIs(is_box(box[:4] + (pair,) + box[5:]), False)


if __name__ == "__main__":
    unittest.main()
