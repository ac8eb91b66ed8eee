import math
import unittest

from kinds import is_whole
from seer.wholes import divisor, inverse


class Divisor(unittest.TestCase):
    def tells(self, one, other, wanted):
        told = divisor(one, other)
        self.assertEqual(told, wanted, (one, other))
        self.assertTrue(is_whole(told), (one, other))

    def test_ordinary_pairs(self):
        self.tells(12, 18, 6)
        self.tells(18, 12, 6)
        self.tells(7, 5, 1)
        self.tells(1, 1, 1)
        self.tells(9, 9, 9)
        self.tells(4, 12, 4)

    def test_either_sign(self):
        self.tells(-12, 18, 6)
        self.tells(12, -18, 6)
        self.tells(-12, -18, 6)
        self.tells(-1, 5, 1)

    def test_noughts(self):
        self.tells(0, 0, 0)
        self.tells(0, 7, 7)
        self.tells(7, 0, 7)
        self.tells(0, -7, 7)
        self.tells(-7, 0, 7)

    def test_is_the_greatest_that_divides_both(self):
        for one in range(-20, 21):
            for other in range(-20, 21):
                if one == 0 and other == 0:
                    continue
                both = [d for d in range(1, 21) if one % d == 0 and other % d == 0]
                self.tells(one, other, max(both))

    def test_many_figures(self):
        great = 10 ** 300 - 1
        self.tells(great, great, great)
        self.tells(-great, 0, great)
        self.tells(great, great - 1, 1)
        self.tells(6 * 10 ** 290, -9 * 10 ** 280, 3 * 10 ** 280)
        self.tells(3 ** 600, 3 ** 500 * 2 ** 100, 3 ** 500)
        self.tells(7 ** 5000, 7 ** 4000, 7 ** 4000)

    def test_neighbours_that_take_the_most_steps(self):
        one = 1
        other = 1
        while other < 10 ** 300:
            one, other = other, one + other
        self.tells(6 * one, 6 * other, 6)
        self.tells(6 * other, -6 * one, 6)

    def test_as_python_itself_tells(self):
        for one in range(10 ** 40, 10 ** 40 + 30):
            for other in range(-720720, 720720, 60060):
                self.tells(one, other, math.gcd(one, other))


class Inverse(unittest.TestCase):
    def test_small_ones(self):
        for by in range(1, 30):
            for one in range(-30, 61):
                if math.gcd(one, by) == 1:
                    told = inverse(one, by)
                    self.assertIn(told, range(by), (one, by))
                    self.assertEqual(one * told % by, 1 % by, (one, by))

    def test_many_figures(self):
        for one, by in [(7, 10 ** 300), (10 ** 300 - 1, 10 ** 300), (3 ** 9000, 2 ** 14000)]:
            self.assertEqual(inverse(one, by), pow(one, -1, by))


if __name__ == "__main__":
    unittest.main()
