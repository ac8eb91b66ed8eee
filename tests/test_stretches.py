import unittest

from kinds import is_stretch
from seer.errors import NoStretch, SeerError
from seer.stretches import (
    stretch,
    stretch_has,
    stretch_inside,
    stretch_joined,
    stretch_met,
    stretch_parted,
    stretch_plus,
    stretch_rested,
    stretch_times,
)

ALL = (None, None)
GREAT = 10 ** 300 - 1
# Numbers are listed from -FAR to FAR. The tests keep each true end within
# NEAR, and what comes of FAR beyond it, so a far one stands for no end.
FAR = 60
NEAR = 10


def small_stretches(most):
    ends = [None] + list(range(-most, most + 1))
    return [(lo, hi) for lo in ends for hi in ends if lo is None or hi is None or lo <= hi]


def numbers(one):
    lo = -FAR if one[0] is None else one[0]
    hi = FAR if one[1] is None else one[1]
    return range(lo, hi + 1)


def least_stretch(some):
    lo = min(some)
    hi = max(some)
    return (None if lo < -NEAR else lo, None if hi > NEAR else hi)


class Case(unittest.TestCase):
    def tells(self, told, wanted, asked=None):
        self.assertEqual(told, wanted, asked)
        self.assertTrue(wanted is None or is_stretch(told), asked)


class Made(Case):
    def test_two_numbers(self):
        self.tells(stretch(2, 5), (2, 5))
        self.tells(stretch(-5, -2), (-5, -2))
        self.tells(stretch(-3, 0), (-3, 0))

    def test_lo_the_same_as_hi(self):
        for end in (-7, 0, 7, GREAT, -GREAT):
            self.tells(stretch(end, end), (end, end))

    def test_one_end_none(self):
        for end in (-7, 0, 7):
            self.tells(stretch(None, end), (None, end))
            self.tells(stretch(end, None), (end, None))

    def test_no_end(self):
        self.tells(stretch(None, None), (None, None))

    def test_lo_above_hi_is_refused(self):
        for lo, hi in [(1, 0), (0, -1), (5, 2), (-2, -5), (3, -3), (GREAT, GREAT - 1), (GREAT, -GREAT)]:
            with self.assertRaises(NoStretch):
                stretch(lo, hi)

    def test_the_refusal_is_of_its_own_class_whatever_the_figures(self):
        with self.assertRaises(SeerError) as taken:
            stretch(10 ** 6000, 0)
        self.assertIs(type(taken.exception), NoStretch)


class Has(unittest.TestCase):
    def tells(self, one, number, wanted):
        self.assertIs(stretch_has(one, number), wanted, (one, number))

    def test_at_beside_and_beyond_the_ends(self):
        for number, wanted in [(-9, False), (-3, False), (-2, True), (-1, True), (0, True),
                               (4, True), (5, True), (6, False), (99, False)]:
            self.tells((-2, 5), number, wanted)

    def test_one_number_alone(self):
        for number in range(-3, 4):
            self.tells((0, 0), number, number == 0)

    def test_without_ends(self):
        for number in (-GREAT, -1, 0, 1, GREAT):
            self.tells(ALL, number, True)
            self.tells((None, 0), number, number <= 0)
            self.tells((0, None), number, number >= 0)

    def test_many_figures(self):
        self.tells((-GREAT, GREAT), GREAT, True)
        self.tells((-GREAT, GREAT), -GREAT, True)
        self.tells((-GREAT, GREAT - 1), GREAT, False)
        self.tells((1 - GREAT, GREAT), -GREAT, False)

    def test_small_ones_number_by_number(self):
        for one in small_stretches(3):
            for number in range(-9, 10):
                self.tells(one, number, number in numbers(one))


class Inside(unittest.TestCase):
    def tells(self, one, other, wanted):
        self.assertIs(stretch_inside(one, other), wanted, (one, other))

    def test_both_ways_round(self):
        self.tells((1, 2), (0, 3), True)
        self.tells((0, 3), (1, 2), False)
        self.tells((0, 2), (1, 3), False)
        self.tells((1, 3), (0, 2), False)
        self.tells((0, 1), (5, 6), False)
        self.tells((0, 3), (0, 3), True)

    def test_without_ends(self):
        self.tells((1, 2), ALL, True)
        self.tells(ALL, (1, 2), False)
        self.tells((1, 2), (1, None), True)
        self.tells((1, None), (1, 2), False)
        self.tells((1, None), (1, None), True)
        self.tells((0, None), (1, None), False)
        self.tells((None, 2), (None, 2), True)
        self.tells((None, 3), (None, 2), False)
        self.tells((None, 2), (2, None), False)
        self.tells((None, 2), ALL, True)
        self.tells(ALL, (None, 2), False)
        self.tells(ALL, ALL, True)

    def test_small_ones_number_by_number(self):
        for one in small_stretches(3):
            for other in small_stretches(3):
                self.tells(one, other, all(n in numbers(other) for n in numbers(one)))


class JoinedAndMet(Case):
    def test_joined(self):
        self.tells(stretch_joined((0, 2), (5, 9)), (0, 9))
        self.tells(stretch_joined((5, 9), (0, 2)), (0, 9))
        self.tells(stretch_joined((0, 9), (3, 4)), (0, 9))
        self.tells(stretch_joined((3, 3), (3, 3)), (3, 3))

    def test_joined_without_ends(self):
        self.tells(stretch_joined((0, 2), (5, None)), (0, None))
        self.tells(stretch_joined((None, 2), (5, 9)), (None, 9))
        self.tells(stretch_joined((None, 2), (5, None)), ALL)
        self.tells(stretch_joined(ALL, (1, 2)), ALL)
        self.tells(stretch_joined((1, 2), ALL), ALL)

    def test_met(self):
        self.tells(stretch_met((0, 5), (3, 9)), (3, 5))
        self.tells(stretch_met((3, 9), (0, 5)), (3, 5))
        self.tells(stretch_met((0, 9), (3, 4)), (3, 4))

    def test_met_in_one_number_alone(self):
        self.tells(stretch_met((0, 3), (3, 9)), (3, 3))
        self.tells(stretch_met((None, 3), (3, None)), (3, 3))

    def test_met_in_no_number(self):
        self.assertIsNone(stretch_met((0, 2), (3, 9)))
        self.assertIsNone(stretch_met((3, 9), (0, 2)))
        self.assertIsNone(stretch_met((None, 2), (3, None)))
        self.assertIsNone(stretch_met((3, None), (None, 2)))

    def test_met_without_ends(self):
        self.tells(stretch_met(ALL, (1, 2)), (1, 2))
        self.tells(stretch_met((1, 2), ALL), (1, 2))
        self.tells(stretch_met((None, 4), (None, 2)), (None, 2))
        self.tells(stretch_met((1, None), (4, None)), (4, None))
        self.tells(stretch_met((None, 4), (1, None)), (1, 4))
        self.tells(stretch_met(ALL, ALL), ALL)

    def test_small_ones_number_by_number(self):
        for one in small_stretches(3):
            for other in small_stretches(3):
                asked = (one, other)
                joined = list(numbers(one)) + list(numbers(other))
                self.tells(stretch_joined(one, other), least_stretch(joined), asked)
                met = [n for n in numbers(one) if n in numbers(other)]
                self.tells(stretch_met(one, other), least_stretch(met) if met else None, asked)


class Plus(Case):
    def test_with_ends(self):
        self.tells(stretch_plus((1, 2), (10, 20)), (11, 22))
        self.tells(stretch_plus((-3, 2), (-5, -4)), (-8, -2))
        self.tells(stretch_plus((4, 4), (-4, -4)), (0, 0))
        self.tells(stretch_plus((-GREAT, GREAT), (-1, 1)), (-10 ** 300, 10 ** 300))

    def test_without_ends(self):
        self.tells(stretch_plus((1, None), (10, 20)), (11, None))
        self.tells(stretch_plus((1, 2), (None, 20)), (None, 22))
        self.tells(stretch_plus((1, None), (None, 20)), ALL)
        self.tells(stretch_plus(ALL, (1, 2)), ALL)
        self.tells(stretch_plus((0, None), (0, None)), (0, None))

    def test_small_ones_number_by_number(self):
        for one in small_stretches(2):
            for other in small_stretches(2):
                sums = {n + m for n in numbers(one) for m in numbers(other)}
                self.tells(stretch_plus(one, other), least_stretch(sums), (one, other))


class Times(Case):
    def test_above_nought(self):
        self.tells(stretch_times((-2, 5), 3), (-6, 15))
        self.tells(stretch_times((-2, 5), 1), (-2, 5))
        self.tells(stretch_times((-2, None), 3), (-6, None))
        self.tells(stretch_times((None, 5), 3), (None, 15))
        self.tells(stretch_times(ALL, 3), ALL)

    def test_below_nought_turns_round(self):
        self.tells(stretch_times((-2, 5), -3), (-15, 6))
        self.tells(stretch_times((-2, 5), -1), (-5, 2))
        self.tells(stretch_times((-2, None), -3), (None, 6))
        self.tells(stretch_times((None, 5), -3), (-15, None))
        self.tells(stretch_times(ALL, -3), ALL)

    def test_nought(self):
        for one in [(-2, 5), (3, 3), (1, None), (None, 1), ALL]:
            self.tells(stretch_times(one, 0), (0, 0), one)

    def test_many_figures_and_what_was_told_handed_in_again(self):
        told = stretch_times((-GREAT, GREAT - 1), -GREAT)
        self.tells(told, (-(GREAT - 1) * GREAT, GREAT * GREAT))
        for power in range(3, 30):
            told = stretch_times(told, GREAT)
            self.tells(told, (-(GREAT - 1) * GREAT ** (power - 1), GREAT ** power))
        self.tells(stretch_parted(told, GREAT ** 28), (1 - GREAT, GREAT))

    def test_small_ones_number_by_number(self):
        for one in small_stretches(3):
            for k in range(-3, 4):
                wanted = least_stretch([k * n for n in numbers(one)])
                self.tells(stretch_times(one, k), wanted, (one, k))


class Parted(Case):
    def test_rounded_down(self):
        self.tells(stretch_parted((-7, 7), 2), (-4, 3))
        self.tells(stretch_parted((-1, -1), 5), (-1, -1))
        self.tells(stretch_parted((-6, -5), 3), (-2, -2))
        self.tells(stretch_parted((3, 11), 4), (0, 2))

    def test_by_one(self):
        for one in [(-7, 7), (3, 3), (None, 4), (4, None), ALL]:
            self.tells(stretch_parted(one, 1), one, one)

    def test_without_ends(self):
        self.tells(stretch_parted((None, -1), 4), (None, -1))
        self.tells(stretch_parted((-1, None), 4), (-1, None))
        self.tells(stretch_parted(ALL, 4), ALL)

    def test_many_figures(self):
        self.tells(stretch_parted((-GREAT, GREAT), 10 ** 299), (-10, 9))
        self.tells(stretch_parted((-1, 1), GREAT), (-1, 0))

    def test_small_ones_number_by_number(self):
        for one in small_stretches(7):
            for k in range(1, 6):
                wanted = least_stretch([n // k for n in numbers(one)])
                self.tells(stretch_parted(one, k), wanted, (one, k))


class Rested(Case):
    def test_within_one_part(self):
        self.tells(stretch_rested((11, 13), 10), (1, 3))
        self.tells(stretch_rested((10, 19), 10), (0, 9))
        self.tells(stretch_rested((14, 14), 10), (4, 4))

    def test_within_one_part_below_nought(self):
        self.tells(stretch_rested((-9, -7), 10), (1, 3))
        self.tells(stretch_rested((-1, -1), 10), (9, 9))
        self.tells(stretch_rested((-10, -10), 10), (0, 0))

    def test_beyond_one_part(self):
        self.tells(stretch_rested((9, 10), 10), (0, 9))
        self.tells(stretch_rested((-1, 0), 10), (0, 9))
        self.tells(stretch_rested((3, 13), 10), (0, 9))
        self.tells(stretch_rested((3, 12), 10), (0, 9))
        self.tells(stretch_rested((-99, 99), 10), (0, 9))

    def test_by_one(self):
        for one in [(-7, 7), (3, 3), (None, 4), (4, None), ALL]:
            self.tells(stretch_rested(one, 1), (0, 0), one)

    def test_without_ends(self):
        for one in [(None, 3), (3, None), ALL]:
            self.tells(stretch_rested(one, 10), (0, 9), one)

    def test_many_figures(self):
        self.tells(stretch_rested((-2, -1), GREAT), (GREAT - 2, GREAT - 1))
        self.tells(stretch_rested((-1, 0), GREAT), (0, GREAT - 1))
        self.tells(stretch_rested((GREAT, GREAT), 10 ** 299), (10 ** 299 - 1, 10 ** 299 - 1))

    def test_small_ones_number_by_number(self):
        for one in small_stretches(7):
            for k in range(1, 6):
                rests = [n % k for n in numbers(one)]
                self.tells(stretch_rested(one, k), (min(rests), max(rests)), (one, k))


class HandedIn(unittest.TestCase):
    def test_asking_twice_tells_the_same(self):
        one = (-4, None)
        other = (None, 9)
        for ask in [stretch_inside, stretch_joined, stretch_met, stretch_plus]:
            self.assertEqual(ask(one, other), ask(one, other))
        for ask in [stretch_has, stretch_times, stretch_parted, stretch_rested]:
            self.assertEqual(ask(one, 3), ask(one, 3))
        self.assertEqual((one, other), ((-4, None), (None, 9)))


if __name__ == "__main__":
    unittest.main()
