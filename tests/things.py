"""Told things for the tests: by hand, by throws, and the boxes that lie in them."""

import itertools
import unittest

from kinds import Dice, grid, is_told
from seer.tolds import told_has

GREAT = 10 ** 300 - 1
ALL = (1, 0)
NO_BOXES = ([[0]], [])
SLACKS = (None, None, 0, 0, 1, 2, 5, 9)
STEPS = (0, 1, 1, 1, 2, 3, 4, 6)
FACTORS = (-3, -2, -1, -1, 0, 0, 1, 1, 2, 3)
RESTS = ((1, 0), (2, 0), (2, 1), (3, 1), (4, 3), (6, 2), (0, 0), (0, 2), (0, -3))


def over(n, some, rests=None):
    """The told thing over n boxes that has some bounds; without rests told, all."""
    return (grid(n, some), [ALL] * n if rests is None else rests)


def one_box(lo, hi, left):
    return ([[0, None if lo is None else -lo], [hi, 0]], [left])


def some_told(dice, n, bounds, rests):
    if dice.throw(25) == 0:
        return None
    pairs = itertools.permutations(range(n + 1), 2)
    return over(n, {pair: dice.choice(bounds) for pair in pairs}, [dice.choice(rests) for box in range(n)])


def told_about(dice, boxes):
    """A told thing in which the boxes lie, closely or not."""
    held = [0] + boxes
    some = {}
    for i, j in itertools.permutations(range(len(held)), 2):
        slack = dice.choice(SLACKS)
        if slack is not None:
            some[i, j] = held[i] - held[j] + slack
    return over(len(boxes), some, [rest_about(number, dice.choice(STEPS)) for number in boxes])


def rest_about(number, m):
    return (m, number if m == 0 else number % m)


def some_things(seed, turns, boxes=(1, 2, 3, 4)):
    """Told things over some boxes: half of them about boxes that lie in them, half by any bounds and rests."""
    dice = Dice(seed)
    for turn in range(turns):
        n = dice.choice(boxes)
        if turn % 2 == 0:
            told = told_about(dice, some_boxes(dice, n, 6))
        else:
            told = some_told(dice, n, (None, None, -2, 0, 4, 8, 15), RESTS) or over(n, {})
        yield dice, n, told


def some_boxes(dice, n, far):
    return [dice.throw(2 * far + 1) - far for box in range(n)]


def some_sum(dice, n):
    return [dice.throw(15) - 7] + [dice.choice(FACTORS) for box in range(n)]


def some_claim(dice, n):
    word = dice.choice(("under", "same", "even"))
    return (word, some_sum(dice, n)) + ((1 + dice.throw(4),) if word == "even" else ())


def boxes_of(told, n, far):
    return [list(boxes) for boxes in itertools.product(range(-far, far + 1), repeat=n) if told_has(told, list(boxes))]


class Case(unittest.TestCase):
    def is_truth(self, told, wanted, handed):
        self.assertIs(told, wanted, handed)

    def is_thing(self, told, wanted, handed):
        self.assertTrue(is_told(told), handed)
        self.assertEqual(told, wanted, handed)
