import itertools
import unittest

from kinds import Dice, check_own, grid, is_grid
from seer.grids import closed

GREAT = 10 ** 300 - 1


def sum_along(bounds, way):
    steps = [bounds[i][j] for i, j in zip(way, way[1:])]
    return None if None in steps else sum(steps)


def by_each_way(bounds):
    """The least sums by going through all ways that come to no place twice."""
    places = range(len(bounds))
    ways = [way for many in range(1, len(bounds) + 1) for way in itertools.permutations(places, many)]
    for way in ways:
        round_about = sum_along(bounds, way + way[:1])
        if round_about is not None and round_about < 0:
            return None
    least = [[0 if i == j else None for j in places] for i in places]
    for way in ways:
        found = sum_along(bounds, way)
        i = way[0]
        j = way[-1]
        if i != j and found is not None and (least[i][j] is None or found < least[i][j]):
            least[i][j] = found
    return least


class Closed(unittest.TestCase):
    def tells(self, bounds, wanted):
        told = closed(bounds)
        self.assertEqual(told, wanted, bounds)
        self.assertTrue(told is None or is_grid(told), bounds)

    def test_over_no_boxes(self):
        self.tells([[0]], [[0]])

    def test_nothing_bound(self):
        for n in range(10):
            self.tells(grid(n, {}), grid(n, {}))

    def test_of_one_box(self):
        self.tells([[0, -3], [5, 0]], [[0, -3], [5, 0]])
        self.tells([[0, -5], [5, 0]], [[0, -5], [5, 0]])
        self.tells([[0, None], [5, 0]], [[0, None], [5, 0]])
        self.tells([[0, -3], [None, 0]], [[0, -3], [None, 0]])

    def test_a_ring_of_two_steps(self):
        self.tells([[0, -5], [4, 0]], None)
        self.tells([[0, 4], [-5, 0]], None)
        self.tells(grid(3, {(1, 3): -1, (3, 1): 0}), None)
        self.tells(grid(3, {(1, 3): -1, (3, 1): 1}), grid(3, {(1, 3): -1, (3, 1): 1}))

    def test_a_ring_of_many_steps(self):
        for n in range(2, 10):
            ring = {(i, i + 1): 3 for i in range(n)}
            ring[(n, 0)] = -3 * n - 1
            self.tells(grid(n, ring), None)
            ring[(n, 0)] = -3 * n
            wanted = [[3 * (j - i) for j in range(n + 1)] for i in range(n + 1)]
            self.tells(grid(n, ring), wanted)

    def test_a_ring_beside_what_it_does_not_touch(self):
        self.tells(grid(4, {(1, 0): 5, (3, 4): 2, (4, 3): -3}), None)

    def test_ways_of_two_steps(self):
        self.tells(grid(2, {(2, 1): 2, (1, 0): 5}), grid(2, {(2, 1): 2, (1, 0): 5, (2, 0): 7}))
        self.tells(grid(2, {(2, 1): 2, (1, 0): 5, (2, 0): 9}), grid(2, {(2, 1): 2, (1, 0): 5, (2, 0): 7}))
        self.tells(grid(2, {(2, 1): 2, (1, 0): 5, (2, 0): 6}), grid(2, {(2, 1): 2, (1, 0): 5, (2, 0): 6}))
        self.tells(grid(2, {(0, 1): -4, (1, 2): -6}), grid(2, {(0, 1): -4, (1, 2): -6, (0, 2): -10}))

    def test_ways_by_nought(self):
        self.tells(grid(2, {(1, 0): 5, (0, 2): 3}), grid(2, {(1, 0): 5, (0, 2): 3, (1, 2): 8}))

    def test_ways_of_many_steps_in_each_order_of_the_boxes(self):
        for way in itertools.permutations(range(5)):
            steps = {(i, j): 10 ** k for k, (i, j) in enumerate(zip(way, way[1:]))}
            wanted = {(way[a], way[b]): sum(10 ** k for k in range(a, b)) for b in range(5) for a in range(b)}
            self.tells(grid(4, steps), grid(4, wanted))

    def test_ways_through_nine_boxes(self):
        for order in (list(range(10)), list(range(9, -1, -1)), [4, 8, 0, 9, 3, 7, 1, 6, 2, 5]):
            steps = {(i, j): -1 for i, j in zip(order, order[1:])}
            wanted = {(order[a], order[b]): a - b for b in range(10) for a in range(b)}
            self.tells(grid(9, steps), grid(9, wanted))

    def test_the_longer_way_is_less(self):
        self.tells(grid(3, {(1, 2): 10, (1, 3): -4, (3, 2): 13, (2, 1): 4}),
                   grid(3, {(1, 2): 9, (1, 3): -4, (3, 2): 13, (2, 1): 4, (2, 3): 0, (3, 1): 17}))

    def test_closed_already(self):
        for bounds in ([[0, 2, 3], [-1, 0, 2], [0, 1, 0]], grid(3, {(1, 2): 4, (2, 3): 5, (1, 3): 9})):
            self.tells(bounds, bounds)

    def test_many_figures(self):
        self.tells(grid(2, {(2, 1): GREAT, (1, 0): GREAT}),
                   grid(2, {(2, 1): GREAT, (1, 0): GREAT, (2, 0): 2 * GREAT}))
        self.tells([[0, -GREAT - 1], [GREAT, 0]], None)

    def test_by_each_way_of_all_small_ones(self):
        for bounds in itertools.product((None, -2, 0, 3), repeat=6):
            some = dict(zip(itertools.permutations(range(3), 2), bounds))
            self.tells(grid(2, some), by_each_way(grid(2, some)))

    def test_by_each_way_of_many_greater_ones(self):
        dice = Dice(5)
        seen = set()
        for turn in range(1500):
            kind = [[None, None, -4, 0, 2, 5, 9], [None, 1, 3, 4, 8, 20], [None, None, None, -3, -1, 2]][turn % 3]
            bounds = grid(4, {(i, j): dice.choice(kind) for i, j in itertools.permutations(range(5), 2)})
            wanted = by_each_way(bounds)
            seen.add((turn % 3, wanted is None))
            self.tells(bounds, wanted)
        self.assertEqual(seen, {(0, True), (0, False), (1, False), (2, True), (2, False)})

    def test_closed_twice_it_is_the_same(self):
        dice = Dice(6)
        for turn in range(300):
            bounds = grid(5, {(i, j): dice.choice([None, -1, 2, 5, 9]) for i, j in itertools.permutations(range(6), 2)})
            told = closed(bounds)
            if told is not None:
                self.tells(told, told)

    def test_what_is_told_is_the_askers_own(self):
        for bounds in ([[0]], grid(3, {}), [[0, -5], [5, 0]], [[0, -5], [4, 0]], grid(2, {(2, 1): 2, (1, 0): 5})):
            check_own(self, closed, bounds)


if __name__ == "__main__":
    unittest.main()
