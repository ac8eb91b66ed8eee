import itertools
import unittest

from kinds import is_rest, is_stretch, is_sum, is_whole
from seer.rests import rest_has
from seer.stretches import stretch_has
from seer.sums import box_sum, holds, sum_plus, sum_rest, sum_stretch, sum_times, value

ALL = (None, None)
GREAT = 10 ** 300 - 1


class Value(unittest.TestCase):
    def tells(self, one, boxes, wanted):
        told = value(one, boxes)
        self.assertEqual(told, wanted, (one, boxes))
        self.assertTrue(is_whole(told), (one, boxes))

    def test_ordinary_ones(self):
        self.tells([4, 2, -3], [10, 100], -276)
        self.tells([-4, 0, 5], [7, -2], -14)
        self.tells([0, 1, 1, 1], [1, 20, 300], 321)

    def test_each_box_by_its_own_number(self):
        self.tells([1000, 1, 10, 100], [2, 3, 4], 1432)

    def test_over_no_boxes(self):
        self.tells([-7], [], -7)

    def test_noughts(self):
        self.tells([0, 0, 0], [5, 6], 0)
        self.tells([3, 4, 5], [0, 0], 3)

    def test_many_figures(self):
        self.tells([GREAT, GREAT, -1], [GREAT, -GREAT], GREAT * GREAT + 2 * GREAT)


class BoxSum(unittest.TestCase):
    def test_each_box(self):
        self.assertEqual(box_sum(1, 1), [0, 1])
        self.assertEqual(box_sum(1, 3), [0, 1, 0, 0])
        self.assertEqual(box_sum(2, 3), [0, 0, 1, 0])
        self.assertEqual(box_sum(3, 3), [0, 0, 0, 1])

    def test_box_nought(self):
        self.assertEqual(box_sum(0, 0), [0])
        self.assertEqual(box_sum(0, 1), [0, 0])
        self.assertEqual(box_sum(0, 3), [0, 0, 0, 0])

    def test_has_the_value_of_what_the_box_holds(self):
        boxes = [17, -5, 10 ** 40, 0, 3, 8, -9, 11, 2]
        for many in range(len(boxes) + 1):
            for i in range(many + 1):
                told = box_sum(i, many)
                self.assertTrue(is_sum(told), (i, many))
                self.assertEqual(len(told), many + 1)
                self.assertEqual(value(told, boxes[:many]), boxes[i - 1] if i > 0 else 0, (i, many))

    def test_is_the_askers_own(self):
        told = box_sum(2, 3)
        told[0] = 99
        told.append(5)
        self.assertEqual(box_sum(2, 3), [0, 0, 1, 0])


class PlusAndTimes(unittest.TestCase):
    def test_plus(self):
        self.assertEqual(sum_plus([1, -2, 3], [10, 20, -30]), [11, 18, -27])
        self.assertEqual(sum_plus([1], [-1]), [0])
        self.assertEqual(sum_plus([GREAT, -GREAT], [1, -1]), [10 ** 300, -10 ** 300])

    def test_times(self):
        self.assertEqual(sum_times([1, -2, 3], 4), [4, -8, 12])
        self.assertEqual(sum_times([1, -2, 3], -4), [-4, 8, -12])
        self.assertEqual(sum_times([1, -2, 3], 0), [0, 0, 0])
        self.assertEqual(sum_times([1, -2, 3], 1), [1, -2, 3])
        self.assertEqual(sum_times([5], -1), [-5])
        self.assertEqual(sum_times([GREAT, 1], GREAT), [GREAT * GREAT, GREAT])

    def test_values_go_along(self):
        boxes = [7, -11]
        one = [3, 4, -5]
        other = [-2, 6, 1]
        self.assertEqual(value(sum_plus(one, other), boxes), value(one, boxes) + value(other, boxes))
        for k in range(-3, 4):
            self.assertEqual(value(sum_times(one, k), boxes), k * value(one, boxes))

    def test_each_is_told_as_a_list_of_its_own(self):
        one = [3, 4, -5]
        nought = [0, 0, 0]
        asks = [
            (lambda: sum_plus(one, nought), [3, 4, -5]),
            (lambda: sum_plus(nought, one), [3, 4, -5]),
            (lambda: sum_plus(one, one), [6, 8, -10]),
            (lambda: sum_times(one, 1), [3, 4, -5]),
            (lambda: sum_times(one, 0), [0, 0, 0]),
        ]
        for ask, wanted in asks:
            told = ask()
            self.assertTrue(is_sum(told))
            self.assertIsNot(told, one)
            self.assertIsNot(told, nought)
            told[1] = 99
            told.append(7)
            self.assertEqual((one, nought), ([3, 4, -5], [0, 0, 0]))
            self.assertEqual(ask(), wanted)

    def test_what_was_told_stays_when_what_was_handed_in_is_changed(self):
        one = [3, 4, -5]
        other = [1, 1, 1]
        told = [sum_plus(one, other), sum_times(one, 1), sum_times(one, 2)]
        one[1] = 99
        other.append(7)
        self.assertEqual(told, [[4, 5, -4], [3, 4, -5], [6, 8, -10]])


class SumStretch(unittest.TestCase):
    def tells(self, one, stretches, wanted):
        told = sum_stretch(one, stretches)
        self.assertEqual(told, wanted, (one, stretches))
        self.assertTrue(is_stretch(told), (one, stretches))

    def test_above_and_below_nought(self):
        self.tells([5, 2, -3], [(1, 4), (-2, 10)], (-23, 19))
        self.tells([-1, 1, 1], [(0, 1), (0, 2)], (-1, 2))
        self.tells([0, -1], [(-7, 3)], (-3, 7))

    def test_nought_takes_nothing_of_a_box(self):
        self.tells([5, 0, 1], [ALL, (1, 2)], (6, 7))
        self.tells([5, 0], [(3, None)], (5, 5))
        self.tells([5, 0, 0], [(3, 4), (None, 9)], (5, 5))

    def test_over_no_boxes(self):
        self.tells([-7], [], (-7, -7))

    def test_without_ends(self):
        self.tells([1, 2], [(3, None)], (7, None))
        self.tells([1, -2], [(3, None)], (None, -5))
        self.tells([1, 2], [(None, 3)], (None, 7))
        self.tells([1, -2], [(None, 3)], (-5, None))
        self.tells([1, 1, 1], [(3, None), (None, 3)], ALL)
        self.tells([1, 1, -1], [(3, None), (None, 3)], (1, None))
        self.tells([1, 2], [ALL], ALL)

    def test_many_figures(self):
        self.tells([GREAT, GREAT], [(-GREAT, GREAT)], (GREAT - GREAT * GREAT, GREAT + GREAT * GREAT))

    def test_small_ones_value_by_value(self):
        spans = [(-2, 1), (0, 0), (3, 5)]
        for left, right in itertools.product(spans, spans):
            for one in itertools.product(range(-2, 3), repeat=3):
                values = [value(list(one), [x, y]) for x in range(left[0], left[1] + 1)
                          for y in range(right[0], right[1] + 1)]
                self.tells(list(one), [left, right], (min(values), max(values)))


class SumRest(unittest.TestCase):
    def tells(self, one, rests, wanted):
        told = sum_rest(one, rests)
        self.assertEqual(told, wanted, (one, rests))
        self.assertTrue(is_rest(told), (one, rests))

    def test_above_and_below_nought(self):
        self.tells([5, 2, -3], [(6, 1), (4, 3)], (12, 10))
        self.tells([0, 1, 1], [(6, 1), (4, 3)], (2, 0))
        self.tells([0, -1], [(5, 2)], (5, 3))
        self.tells([1, 4], [(1, 0)], (4, 1))

    def test_nought_takes_nothing_of_a_box(self):
        self.tells([5, 0, 2], [(1, 0), (3, 1)], (6, 1))
        self.tells([-5, 0, 0], [(1, 0), (3, 1)], (0, -5))

    def test_over_no_boxes(self):
        self.tells([-7], [], (0, -7))

    def test_numbers_alone(self):
        self.tells([5, 2, -3], [(0, 10), (0, -4)], (0, 37))
        self.tells([5, 2, -3], [(0, 10), (4, 1)], (12, 10))
        self.tells([5, 0], [(0, 10)], (0, 5))

    def test_many_figures(self):
        self.tells([1, GREAT], [(GREAT, 1)], (GREAT * GREAT, GREAT + 1))
        self.tells([1, -GREAT], [(0, GREAT)], (0, 1 - GREAT * GREAT))


class ByStretchesAndRests(unittest.TestCase):
    def test_values_lie_in_both(self):
        spans = [(-3, None), (None, 4)]
        rests = [(3, 1), (0, -2)]
        for one in itertools.product(range(-3, 4), repeat=3):
            told_stretch = sum_stretch(list(one), spans)
            told_rest = sum_rest(list(one), rests)
            for x in (-2, 1, 4, 100):
                told = value(list(one), [x, -2])
                self.assertTrue(stretch_has(told_stretch, told), one)
                self.assertTrue(rest_has(told_rest, told), one)


class Holds(unittest.TestCase):
    def tells(self, claim, boxes, wanted):
        self.assertIs(holds(claim, boxes), wanted, (claim, boxes))

    def test_under(self):
        for held, wanted in [(-GREAT, True), (2, True), (3, False), (4, False), (GREAT, False)]:
            self.tells(("under", [-3, 1]), [held], wanted)
        self.tells(("under", [0, 1, -1]), [4, 5], True)
        self.tells(("under", [0, 1, -1]), [5, 5], False)
        self.tells(("under", [-1]), [], True)

    def test_same(self):
        for held, wanted in [(-3, False), (2, False), (3, True), (4, False)]:
            self.tells(("same", [-3, 1]), [held], wanted)
        self.tells(("same", [0, 1, -1]), [-7, -7], True)
        self.tells(("same", [0, 1, 1]), [-7, -7], False)
        self.tells(("same", [GREAT, -1]), [GREAT], True)

    def test_even(self):
        for held in range(-9, 10):
            self.tells(("even", [0, 1], 3), [held], held in (-9, -6, -3, 0, 3, 6, 9))
            self.tells(("even", [1, 2], 5), [held], held in (-8, -3, 2, 7))
            self.tells(("even", [1, 2], 2), [held], False)

    def test_even_by_one(self):
        for held in (-GREAT, -1, 0, 1, GREAT):
            self.tells(("even", [0, 1], 1), [held], True)

    def test_even_by_many_figures(self):
        self.tells(("even", [0, 1], GREAT), [-GREAT], True)
        self.tells(("even", [1, 1], GREAT), [-GREAT], False)
        self.tells(("even", [0, 1], GREAT), [0], True)


class HandedIn(unittest.TestCase):
    def test_nothing_is_changed_and_asked_again_it_is_the_same(self):
        one = [5, 2, -3]
        boxes = [4, 7]
        stretches = [(1, None), (-2, 10)]
        rests = [(6, 1), (0, 3)]
        claims = [("under", [5, 2, -3]), ("same", [5, 2, -3]), ("even", [5, 2, -3], 4)]

        def ask():
            return [value(one, boxes), sum_plus(one, one), sum_times(one, 3), sum_stretch(one, stretches),
                    sum_rest(one, rests), [holds(claim, boxes) for claim in claims]]

        told = ask()
        self.assertEqual(told, [-8, [10, 4, -6], [15, 6, -9], (-23, None), (12, 10), [True, False, True]])
        self.assertEqual(ask(), told)
        self.assertEqual((one, boxes), ([5, 2, -3], [4, 7]))
        self.assertEqual((stretches, rests), ([(1, None), (-2, 10)], [(6, 1), (0, 3)]))
        self.assertEqual(claims, [("under", [5, 2, -3]), ("same", [5, 2, -3]), ("even", [5, 2, -3], 4)])


if __name__ == "__main__":
    unittest.main()
