import math
import unittest

from kinds import is_rest, is_whole
from seer.errors import NoRest, SeerError
from seer.rests import (
    rest,
    rest_has,
    rest_inside,
    rest_joined,
    rest_loosened,
    rest_met,
    rest_parted,
    rest_plus,
    rest_rested,
    rest_times,
    rest_under,
)

ALL = (1, 0)
GREAT = 10 ** 300 - 1
# Numbers are listed from -FAR to FAR: far enough that what small rests do
# together or by a small k comes there several times.
FAR = 130


def small_rests(most):
    alone = [(0, r) for r in range(-most, most + 1)]
    return alone + [(m, r) for m in range(1, most + 1) for r in range(m)]


def numbers(one, far=FAR):
    return [n for n in range(-far, far + 1) if n == one[1] or (one[0] > 0 and (n - one[1]) % one[0] == 0)]


def least_rest(some):
    first = min(some)
    m = math.gcd(*[n - first for n in some])
    return (m, first % m if m > 0 else first)


class Case(unittest.TestCase):
    def tells(self, told, wanted, asked=None):
        self.assertEqual(told, wanted, asked)
        self.assertTrue(wanted is None or is_rest(told), asked)

    def tells_least(self, told, some, asked):
        """told has all of some, and is inside every other rest that has them."""
        self.assertTrue(is_rest(told), asked)
        self.assertLessEqual(set(some), set(numbers(told)), asked)
        self.tells(told, least_rest(some), asked)


class TheTestsOwn(unittest.TestCase):
    def test_least_rest_is_inside_every_other_that_has_the_numbers(self):
        for some in [[3], [3, 3], [-4, 2], [1, 5, 11], [0, 7, 8], [-6, 0, 9], [-5, 10, 25]]:
            told = numbers(least_rest(some))
            self.assertLessEqual(set(some), set(told))
            for other in small_rests(30):
                if set(some) <= set(numbers(other)):
                    self.assertLessEqual(set(told), set(numbers(other)), (some, other))


class Made(Case):
    def test_nought_keeps_r_as_it_is(self):
        for r in (-GREAT, -7, -1, 0, 1, 7, GREAT):
            self.tells(rest(0, r), (0, r))

    def test_one_has_all(self):
        for r in (-GREAT, -7, -1, 0, 1, 7, GREAT):
            self.tells(rest(1, r), ALL)

    def test_r_is_brought_below_m(self):
        for r, wanted in [(-11, 4), (-10, 0), (-6, 4), (-5, 0), (-1, 4), (0, 0), (1, 1), (4, 4), (5, 0), (6, 1),
                          (13, 3)]:
            self.tells(rest(5, r), (5, wanted), r)

    def test_many_figures(self):
        self.tells(rest(GREAT, GREAT), (GREAT, 0))
        self.tells(rest(GREAT, -1), (GREAT, GREAT - 1))
        self.tells(rest(10 ** 299, GREAT), (10 ** 299, 10 ** 299 - 1))

    def test_m_below_nought_is_refused(self):
        for m in (-1, -2, -7, -GREAT):
            for r in (-3, 0, 3):
                with self.assertRaises(NoRest):
                    rest(m, r)

    def test_the_refusal_is_of_its_own_class_whatever_the_figures(self):
        with self.assertRaises(SeerError) as taken:
            rest(-10 ** 6000, 10 ** 6000)
        self.assertIs(type(taken.exception), NoRest)

    def test_small_ones_number_by_number(self):
        for m in range(1, 8):
            for r in range(-20, 21):
                told = rest(m, r)
                self.assertTrue(is_rest(told), (m, r))
                self.assertEqual(numbers(told), [n for n in range(-FAR, FAR + 1) if (n - r) % m == 0], (m, r))


class Has(unittest.TestCase):
    def tells(self, one, number, wanted):
        self.assertIs(rest_has(one, number), wanted, (one, number))

    def test_of_a_number_alone(self):
        for number in range(-5, 6):
            self.tells((0, 3), number, number == 3)
            self.tells((0, -3), number, number == -3)
            self.tells((0, 0), number, number == 0)

    def test_of_all(self):
        for number in (-GREAT, -1, 0, 1, GREAT):
            self.tells(ALL, number, True)

    def test_either_sign(self):
        for number, wanted in [(-9, False), (-8, True), (-7, False), (-3, True), (0, False), (2, True), (3, False),
                               (7, True)]:
            self.tells((5, 2), number, wanted)

    def test_many_figures(self):
        self.tells((GREAT, 0), GREAT, True)
        self.tells((GREAT, 0), -GREAT, True)
        self.tells((GREAT, 1), -GREAT, False)
        self.tells((10 ** 299, 10 ** 299 - 1), GREAT, True)
        self.tells((0, GREAT), GREAT, True)
        self.tells((0, GREAT), GREAT - 1, False)

    def test_small_ones_number_by_number(self):
        for one in small_rests(7):
            for number in range(-20, 21):
                self.tells(one, number, number in numbers(one))


class Inside(unittest.TestCase):
    def tells(self, one, other, wanted):
        self.assertIs(rest_inside(one, other), wanted, (one, other))

    def test_both_ways_round(self):
        self.tells((6, 5), (3, 2), True)
        self.tells((3, 2), (6, 5), False)
        self.tells((6, 4), (3, 2), False)
        self.tells((6, 1), (4, 1), False)
        self.tells((4, 1), (6, 1), False)
        self.tells((5, 3), (5, 3), True)
        self.tells((5, 3), (5, 2), False)

    def test_numbers_alone(self):
        self.tells((0, 5), (3, 2), True)
        self.tells((0, -1), (3, 2), True)
        self.tells((0, 6), (3, 2), False)
        self.tells((3, 2), (0, 2), False)
        self.tells((0, 2), (0, 2), True)
        self.tells((0, 2), (0, -2), False)
        self.tells((1, 0), (0, 0), False)

    def test_all(self):
        for one in small_rests(4):
            self.tells(one, ALL, True)
            self.tells(ALL, one, one == ALL)

    def test_many_figures(self):
        self.tells((10 ** 300, 10 ** 299), (10 ** 299, 0), True)
        self.tells((10 ** 299, 0), (10 ** 300, 10 ** 299), False)
        self.tells((0, -GREAT), (10 ** 299, 1), True)
        self.tells((0, GREAT), (10 ** 299, 1), False)

    def test_small_ones_number_by_number(self):
        for one in small_rests(7):
            for other in small_rests(7):
                self.tells(one, other, set(numbers(one)) <= set(numbers(other)))


class Joined(Case):
    def test_numbers_alone(self):
        self.tells(rest_joined((0, 5), (0, 5)), (0, 5))
        self.tells(rest_joined((0, 5), (0, 12)), (7, 5))
        self.tells(rest_joined((0, 12), (0, 5)), (7, 5))
        self.tells(rest_joined((0, -5), (0, 5)), (10, 5))
        self.tells(rest_joined((0, 0), (0, 1)), ALL)

    def test_one_number_alone(self):
        self.tells(rest_joined((0, 7), (6, 1)), (6, 1))
        self.tells(rest_joined((0, 4), (6, 1)), (3, 1))
        self.tells(rest_joined((6, 1), (0, -3)), (2, 1))
        self.tells(rest_joined((6, 1), (0, 0)), ALL)

    def test_two_with_steps(self):
        self.tells(rest_joined((6, 1), (4, 3)), (2, 1))
        self.tells(rest_joined((6, 1), (4, 2)), ALL)
        self.tells(rest_joined((6, 1), (6, 4)), (3, 1))
        self.tells(rest_joined((12, 5), (8, 1)), (4, 1))
        self.tells(rest_joined((12, 5), (12, 5)), (12, 5))

    def test_all(self):
        for one in small_rests(4):
            self.tells(rest_joined(one, ALL), ALL, one)
            self.tells(rest_joined(ALL, one), ALL, one)

    def test_many_figures(self):
        self.tells(rest_joined((0, -GREAT), (0, GREAT)), (2 * GREAT, GREAT))
        self.tells(rest_joined((6 * 10 ** 290, 1), (9 * 10 ** 280, 3 * 10 ** 280 + 1)), (3 * 10 ** 280, 1))

    def test_small_ones_number_by_number(self):
        for one in small_rests(6):
            for other in small_rests(6):
                self.tells_least(rest_joined(one, other), numbers(one) + numbers(other), (one, other))


class Met(Case):
    def test_numbers_alone(self):
        self.tells(rest_met((0, 5), (0, 5)), (0, 5))
        self.tells(rest_met((0, 5), (3, 2)), (0, 5))
        self.tells(rest_met((3, 2), (0, -1)), (0, -1))
        self.tells(rest_met((0, 5), ALL), (0, 5))
        self.tells(rest_met(ALL, (0, -5)), (0, -5))

    def test_two_with_steps(self):
        self.tells(rest_met((3, 2), (5, 3)), (15, 8))
        self.tells(rest_met((5, 3), (3, 2)), (15, 8))
        self.tells(rest_met((4, 1), (6, 3)), (12, 9))
        self.tells(rest_met((6, 3), (4, 1)), (12, 9))
        self.tells(rest_met((12, 7), (4, 3)), (12, 7))
        self.tells(rest_met((5, 2), (5, 2)), (5, 2))

    def test_all(self):
        for one in small_rests(5):
            self.tells(rest_met(one, ALL), one, one)
            self.tells(rest_met(ALL, one), one, one)

    def test_no_number_in_common(self):
        for one, other in [((0, 5), (0, 6)), ((0, 5), (0, -5)), ((0, 4), (3, 2)), ((4, 1), (6, 2)),
                           ((5, 1), (5, 2)), ((4, 3), (12, 5)), ((10 ** 300, 0), (10 ** 299, 1))]:
            self.assertIsNone(rest_met(one, other), (one, other))
            self.assertIsNone(rest_met(other, one), (one, other))

    def test_many_figures(self):
        self.tells(rest_met((10 ** 300, 7), (0, 7 - 10 ** 300)), (0, 7 - 10 ** 300))
        # Both have this number, and 18 divides both steps.
        shared = -7 * 10 ** 299 - 12345
        steps = (18 * 10 ** 250 + 36, 18 * 10 ** 290 + 90)
        one = (steps[0], shared % steps[0])
        other = (steps[1], shared % steps[1])
        m = math.lcm(one[0], other[0])
        self.assertLess(m, one[0] * other[0])
        for told in (rest_met(one, other), rest_met(other, one)):
            self.assertTrue(is_rest(told))
            self.assertEqual(told, (m, shared % m))

    def test_what_was_told_handed_in_again(self):
        told = ALL
        m = 1
        for step in range(1, 30):
            by = 10 ** 298 + step
            told = rest_met(told, (by, step))
            m = math.lcm(m, by)
            self.assertIsNotNone(told, step)
            self.assertEqual(told[0], m)
        self.assertTrue(is_rest(told))
        for step in range(1, 30):
            self.assertEqual(told[1] % (10 ** 298 + step), step)

    def test_small_ones_number_by_number(self):
        for one in small_rests(7):
            for other in small_rests(7):
                both = sorted(set(numbers(one)) & set(numbers(other)))
                told = rest_met(one, other)
                if not both:
                    self.assertIsNone(told, (one, other))
                else:
                    self.tells_least(told, both, (one, other))
                    self.assertEqual(numbers(told), both, (one, other))


class Plus(Case):
    def test_numbers_alone(self):
        self.tells(rest_plus((0, 5), (0, -12)), (0, -7))
        self.tells(rest_plus((0, 5), (6, 4)), (6, 3))
        self.tells(rest_plus((6, 4), (0, -5)), (6, 5))

    def test_two_with_steps(self):
        self.tells(rest_plus((6, 4), (4, 3)), (2, 1))
        self.tells(rest_plus((6, 5), (6, 5)), (6, 4))
        self.tells(rest_plus((5, 1), (3, 1)), ALL)

    def test_all(self):
        for one in small_rests(4):
            self.tells(rest_plus(one, ALL), ALL, one)
            self.tells(rest_plus(ALL, one), ALL, one)

    def test_many_figures(self):
        self.tells(rest_plus((0, GREAT), (0, GREAT)), (0, 2 * GREAT))
        self.tells(rest_plus((GREAT, GREAT - 1), (0, 2)), (GREAT, 1))
        self.tells(rest_plus((6 * 10 ** 290, 2), (9 * 10 ** 280, 3)), (3 * 10 ** 280, 5))

    def test_small_ones_number_by_number(self):
        for one in small_rests(5):
            for other in small_rests(5):
                sums = sorted({n + m for n in numbers(one, 25) for m in numbers(other, 25)})
                self.tells_least(rest_plus(one, other), sums, (one, other))


class Times(Case):
    def test_above_nought(self):
        self.tells(rest_times((5, 3), 4), (20, 12))
        self.tells(rest_times((5, 3), 1), (5, 3))
        self.tells(rest_times((0, -3), 4), (0, -12))
        self.tells(rest_times(ALL, 4), (4, 0))

    def test_below_nought(self):
        self.tells(rest_times((5, 3), -4), (20, 8))
        self.tells(rest_times((5, 3), -1), (5, 2))
        self.tells(rest_times((5, 0), -1), (5, 0))
        self.tells(rest_times((0, 3), -4), (0, -12))
        self.tells(rest_times(ALL, -4), (4, 0))
        self.tells(rest_times(ALL, -1), ALL)

    def test_nought(self):
        for one in [(5, 3), (0, 7), (0, 0), ALL, (GREAT, 1)]:
            self.tells(rest_times(one, 0), (0, 0), one)

    def test_many_figures_and_what_was_told_handed_in_again(self):
        told = (GREAT, 1)
        for power in range(1, 30):
            told = rest_times(told, -GREAT)
            wanted = GREAT ** power if power % 2 == 0 else GREAT ** (power + 1) - GREAT ** power
            self.tells(told, (GREAT ** (power + 1), wanted), power)
        self.tells(rest_parted(told, GREAT ** 29), (GREAT, GREAT - 1))

    def test_small_ones_number_by_number(self):
        for one in small_rests(6):
            for k in range(-5, 6):
                some = [k * n for n in numbers(one, 25)]
                told = rest_times(one, k)
                self.tells_least(told, some, (one, k))
                if k != 0:
                    reach = 25 * abs(k)
                    self.assertEqual(numbers(told, reach), sorted(some), (one, k))


class Parted(Case):
    def test_of_a_number_alone_rounded_down(self):
        for r, wanted in [(-9, -3), (-8, -2), (-5, -2), (-4, -1), (-1, -1), (0, 0), (3, 0), (4, 1), (9, 2)]:
            self.tells(rest_parted((0, r), 4), (0, wanted), r)

    def test_k_divides_m(self):
        self.tells(rest_parted((12, 7), 4), (3, 1))
        self.tells(rest_parted((12, 11), 4), (3, 2))
        self.tells(rest_parted((12, 3), 4), (3, 0))
        self.tells(rest_parted((4, 3), 4), ALL)

    def test_m_divides_k(self):
        self.tells(rest_parted((4, 3), 12), ALL)
        self.tells(rest_parted((2, 0), 4), ALL)
        self.tells(rest_parted(ALL, 9), ALL)

    def test_neither_divides_the_other(self):
        self.tells(rest_parted((6, 2), 4), ALL)
        self.tells(rest_parted((9, 4), 5), ALL)
        self.tells(rest_parted((5, 4), 9), ALL)

    def test_by_one(self):
        for one in small_rests(6):
            self.tells(rest_parted(one, 1), one, one)

    def test_many_figures(self):
        self.tells(rest_parted((0, -GREAT), 10 ** 299), (0, -10))
        self.tells(rest_parted((10 ** 300, GREAT), 10 ** 298), (100, 99))
        self.tells(rest_parted((GREAT, 0), GREAT - 1), ALL)

    def test_small_ones_number_by_number(self):
        for one in small_rests(8):
            for k in range(1, 9):
                self.tells_least(rest_parted(one, k), [n // k for n in numbers(one)], (one, k))


class Rested(Case):
    def test_of_a_number_alone_rounded_down(self):
        for r, wanted in [(-9, 3), (-8, 0), (-5, 3), (-1, 3), (0, 0), (3, 3), (4, 0), (9, 1)]:
            self.tells(rest_rested((0, r), 4), (0, wanted), r)

    def test_k_divides_m(self):
        self.tells(rest_rested((12, 7), 4), (0, 3))
        self.tells(rest_rested((4, 2), 4), (0, 2))

    def test_m_divides_k(self):
        self.tells(rest_rested((4, 3), 12), (4, 3))
        self.tells(rest_rested(ALL, 9), ALL)

    def test_neither_divides_the_other(self):
        self.tells(rest_rested((6, 5), 4), (2, 1))
        self.tells(rest_rested((9, 4), 5), ALL)
        self.tells(rest_rested((10, 7), 15), (5, 2))

    def test_by_one(self):
        for one in small_rests(6):
            self.tells(rest_rested(one, 1), (0, 0), one)

    def test_many_figures(self):
        self.tells(rest_rested((0, -1), GREAT), (0, GREAT - 1))
        self.tells(rest_rested((10 ** 300, GREAT), 10 ** 298), (0, 10 ** 298 - 1))
        self.tells(rest_rested((6 * 10 ** 290, 10 ** 280), 9 * 10 ** 280), (3 * 10 ** 280, 10 ** 280))

    def test_small_ones_number_by_number(self):
        for one in small_rests(8):
            for k in range(1, 9):
                self.tells_least(rest_rested(one, k), [n % k for n in numbers(one)], (one, k))


class Loosened(Case):
    def test_of_a_number_alone(self):
        self.tells(rest_loosened((0, 7), 4), (4, 3))
        self.tells(rest_loosened((0, -7), 4), (4, 1))
        self.tells(rest_loosened((0, 7), 1), ALL)

    def test_with_steps(self):
        self.tells(rest_loosened((12, 7), 4), (4, 3))
        self.tells(rest_loosened((4, 3), 12), (4, 3))
        self.tells(rest_loosened((6, 5), 4), (2, 1))
        self.tells(rest_loosened((6, 5), 1), ALL)
        self.tells(rest_loosened(ALL, 6), ALL)

    def test_many_figures(self):
        self.tells(rest_loosened((0, -1), GREAT), (GREAT, GREAT - 1))
        self.tells(rest_loosened((6 * 10 ** 290, GREAT), 9 * 10 ** 280), (3 * 10 ** 280, GREAT % (3 * 10 ** 280)))

    def test_small_ones_number_by_number(self):
        for one in small_rests(7):
            for k in range(1, 8):
                some = {n + k * turn for n in numbers(one) for turn in range(-40, 41)}
                told = rest_loosened(one, k)
                self.assertTrue(is_rest(told), (one, k))
                self.assertEqual(numbers(told, 20), sorted(n for n in some if -20 <= n <= 20), (one, k))


class Under(unittest.TestCase):
    def tells(self, one, top, wanted):
        told = rest_under(one, top)
        self.assertEqual(told, wanted, (one, top))
        self.assertTrue(wanted is None or is_whole(told), (one, top))

    def test_top_is_a_number_of_the_rest(self):
        for top in (-8, -3, 2, 7):
            self.tells((5, 2), top, top)
        self.tells((0, -3), -3, -3)

    def test_top_beside_one(self):
        self.tells((5, 2), 3, 2)
        self.tells((5, 2), 6, 2)
        self.tells((5, 2), 1, -3)
        self.tells((5, 2), -4, -8)

    def test_of_a_number_alone(self):
        self.tells((0, 5), 6, 5)
        self.tells((0, 5), 4, None)
        self.tells((0, -5), -6, None)
        self.tells((0, -5), GREAT, -5)
        self.tells((0, 0), -1, None)
        self.tells((0, 0), 0, 0)

    def test_of_all(self):
        for top in (-GREAT, -1, 0, 1, GREAT):
            self.tells(ALL, top, top)

    def test_many_figures(self):
        self.tells((10 ** 299, 1), GREAT, 9 * 10 ** 299 + 1)
        self.tells((10 ** 299, 1), -GREAT, 1 - 10 ** 300)
        self.tells((GREAT, 0), -1, -GREAT)

    def test_small_ones_number_by_number(self):
        for one in small_rests(7):
            for top in range(-20, 21):
                self.tells(one, top, max([n for n in numbers(one) if n <= top], default=None))


class HandedIn(unittest.TestCase):
    def test_asking_twice_tells_the_same(self):
        one = (6, 5)
        other = (4, 3)
        for ask in [rest_inside, rest_joined, rest_met, rest_plus]:
            self.assertEqual(ask(one, other), ask(one, other))
        for ask in [rest_has, rest_times, rest_parted, rest_rested, rest_loosened, rest_under]:
            self.assertEqual(ask(one, 3), ask(one, 3))
        self.assertEqual((one, other), ((6, 5), (4, 3)))


if __name__ == "__main__":
    unittest.main()
