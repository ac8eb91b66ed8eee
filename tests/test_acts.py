import copy
import itertools
import unittest

import book
from kinds import check_own, is_end, is_told
from seer.acts import anew, greatest, least, recast
from seer.sums import value
from seer.tolds import sharp, told_has
from things import ALL, GREAT, NO_BOXES, RESTS, Case, boxes_of, one_box, over, some_sum, some_things

# Box 1 is from -2 to 7, box 2 from 4 to 10, nothing is told of box 3.
THREE = over(3, {(1, 0): 7, (0, 1): 2, (2, 0): 10, (0, 2): -4, (1, 2): 1, (2, 1): 6})


class Greatest(unittest.TestCase):
    def tells(self, told, one, wanted):
        found = greatest(told, one)
        self.assertTrue(is_end(found), (told, one))
        self.assertEqual(found, wanted, (told, one))

    def test_no_boxes(self):
        for c in (-5, 0, 9, GREAT):
            self.tells(NO_BOXES, [c], c)

    def test_no_box_used(self):
        for c in (-5, 0, 9, GREAT):
            self.tells(THREE, [c, 0, 0, 0], c)
            self.tells(over(3, {}), [c, 0, 0, 0], c)

    def test_a_box_less_another_by_their_bound(self):
        self.tells(THREE, [0, 1, -1, 0], 1)
        self.tells(THREE, [5, 1, -1, 0], 6)
        self.tells(THREE, [0, -1, 1, 0], 6)
        self.tells(THREE, [-9, -1, 1, 0], -3)

    def test_a_box_less_another_each_two(self):
        bounds = {pair: 10 * pair[0] + pair[1] for pair in itertools.permutations(range(5), 2)}
        for i, j in itertools.permutations(range(1, 5), 2):
            one = [100, 0, 0, 0, 0]
            one[i] = 1
            one[j] = -1
            self.tells(over(4, bounds), one, 100 + bounds[i, j])

    def test_a_box_less_another_without_their_bound(self):
        told = over(2, {(1, 0): 7, (0, 2): -4, (2, 0): 9, (0, 1): 3})
        self.tells(told, [0, 1, -1], None)
        self.tells(told, [0, -1, 1], None)
        told = over(2, {(1, 2): 3})
        self.tells(told, [2, 1, -1], 5)
        self.tells(told, [2, -1, 1], None)

    def test_a_box_less_another_by_a_bound_looser_than_the_ends(self):
        told = over(2, {(1, 0): 7, (0, 2): -4, (1, 2): 50})
        self.tells(told, [0, 1, -1], 50)

    def test_the_first_number_is_no_factor(self):
        self.tells(THREE, [1, 0, -1, 0], -3)
        self.tells(THREE, [-1, 1, 0, 0], 6)
        self.tells(THREE, [1, 1, -1, 0], 2)
        self.tells(THREE, [-1, 1, -1, 0], 0)

    def test_two_boxes_by_other_factors(self):
        self.tells(THREE, [0, 2, -2, 0], 2 * 7 - 2 * 4)
        self.tells(THREE, [0, -2, 2, 0], 2 * 2 + 2 * 10)
        self.tells(THREE, [0, 1, 1, 0], 7 + 10)
        self.tells(THREE, [0, -1, -1, 0], 2 - 4)
        self.tells(THREE, [0, 1, -2, 0], 7 - 8)
        self.tells(THREE, [0, 2, -1, 0], 14 - 4)
        self.tells(THREE, [0, -1, 2, 0], 2 + 20)
        self.tells(THREE, [0, -2, 1, 0], 4 + 10)
        self.tells(THREE, [0, 3, -3, 0], 21 - 12)

    def test_one_box(self):
        self.tells(THREE, [0, 1, 0, 0], 7)
        self.tells(THREE, [0, -1, 0, 0], 2)
        self.tells(THREE, [3, 0, 5, 0], 53)
        self.tells(THREE, [3, 0, -5, 0], -17)
        self.tells(THREE, [0, 0, 0, 1], None)
        self.tells(THREE, [0, 0, 0, -1], None)

    def test_several_boxes(self):
        told = over(4, {(1, 0): 1, (0, 1): 2, (2, 0): 4, (0, 2): 8, (3, 0): 16, (0, 3): 32, (1, 2): -99, (2, 1): -99})
        self.tells(told, [1000, 1, 1, 1, 0], 1021)
        self.tells(told, [1000, -1, -1, -1, 0], 1042)
        self.tells(told, [1000, 1, -1, 1, 0], 1000 + 1 + 8 + 16)
        self.tells(told, [1000, -1, 1, -1, 0], 1000 + 2 + 4 + 32)
        self.tells(told, [0, 3, -2, 5, 0], 3 + 16 + 80)
        self.tells(told, [0, 3, -2, 5, 1], None)

    def test_a_bound_that_is_missing_is_needed_only_by_its_sign(self):
        up = one_box(None, 5, ALL)
        self.tells(up, [0, 2], 10)
        self.tells(up, [0, -2], None)
        self.tells(up, [0, 0], 0)
        down = one_box(-5, None, ALL)
        self.tells(down, [0, 2], None)
        self.tells(down, [0, -2], 10)
        self.tells(down, [3, 0], 3)

    def test_one_missing_bound_among_several(self):
        told = over(3, {(1, 0): 1, (2, 0): 2, (3, 0): 3})
        for lost in (1, 2, 3):
            other = copy.deepcopy(told)
            other[0][lost][0] = None
            self.tells(other, [0, 1, 1, 1], None)
        self.tells(told, [0, 1, 1, 1], 6)

    def test_it_is_taken_as_it_is(self):
        self.tells(over(2, {(1, 0): 5, (2, 1): 2}), [0, 0, 1], None)
        self.tells(over(2, {(1, 0): 5, (2, 1): 2}), [0, -1, 1], 2)
        self.tells(one_box(0, 7, (4, 1)), [0, 1], 7)
        self.tells(one_box(0, 7, (0, 5)), [0, 1], 7)
        self.tells(one_box(3, 1, ALL), [0, 1], 1)
        self.tells(one_box(3, 1, ALL), [0, -1], -3)
        self.tells(over(2, {(1, 2): -4, (2, 1): -4}), [0, 1, -1], -4)

    def test_many_figures(self):
        self.tells(one_box(-GREAT, GREAT, ALL), [GREAT, GREAT], GREAT + GREAT * GREAT)
        self.tells(one_box(-GREAT, GREAT, ALL), [0, -GREAT], GREAT * GREAT)
        self.tells(over(2, {(1, 2): GREAT}), [GREAT, 1, -1], 2 * GREAT)

    def test_by_the_book(self):
        seen = set()
        for dice, n, told in some_things(21, 2000):
            one = some_sum(dice, n)
            found = greatest(told, one)
            seen.add(found is None)
            self.assertEqual(found, book.greatest(told, one), (told, one))
        self.assertEqual(seen, {True, False})

    def test_nothing_handed_in_is_changed(self):
        for one in ([5, 1, -1, 0], [5, 2, -2, 0], [5, 0, 0, 1]):
            check_own(self, greatest, copy.deepcopy(THREE), one)


class Least(unittest.TestCase):
    def tells(self, told, one, wanted):
        found = least(told, one)
        self.assertTrue(is_end(found), (told, one))
        self.assertEqual(found, wanted, (told, one))

    def test_no_box_used(self):
        self.tells(NO_BOXES, [9], 9)
        self.tells(over(2, {}), [-9, 0, 0], -9)
        self.tells(over(2, {}), [0, 0, 0], 0)

    def test_a_box_less_another_by_their_bound(self):
        self.tells(THREE, [0, 1, -1, 0], -6)
        self.tells(THREE, [5, 1, -1, 0], -1)
        self.tells(THREE, [0, -1, 1, 0], -1)
        self.tells(over(2, {(1, 2): 3}), [2, 1, -1], None)
        self.tells(over(2, {(1, 2): 3}), [2, -1, 1], -1)

    def test_other_factors(self):
        self.tells(THREE, [0, 2, -2, 0], -2 * 2 - 2 * 10)
        self.tells(THREE, [0, 1, 1, 0], -2 + 4)
        self.tells(THREE, [0, -1, -1, 0], -7 - 10)

    def test_one_box(self):
        self.tells(THREE, [0, 1, 0, 0], -2)
        self.tells(THREE, [0, -1, 0, 0], -7)
        self.tells(THREE, [3, 0, 5, 0], 23)
        self.tells(THREE, [0, 0, 0, 1], None)
        self.tells(one_box(None, 5, ALL), [0, 2], None)
        self.tells(one_box(None, 5, ALL), [1, -2], -9)

    def test_it_is_taken_as_it_is(self):
        self.tells(one_box(3, 1, ALL), [0, 1], 3)
        self.tells(one_box(0, 7, (4, 1)), [0, 1], 0)

    def test_many_figures(self):
        self.tells(one_box(-GREAT, GREAT, ALL), [GREAT, GREAT], GREAT - GREAT * GREAT)

    def test_by_the_book(self):
        for dice, n, told in some_things(22, 2000):
            one = some_sum(dice, n)
            self.assertEqual(least(told, one), book.least(told, one), (told, one))

    def test_no_boxes_go_beyond_either(self):
        seen = set()
        for dice, n, told in some_things(23, 400, (1, 2)):
            one = some_sum(dice, n)
            high = greatest(told, one)
            low = least(told, one)
            for boxes in boxes_of(told, n, 8):
                number = value(one, boxes)
                self.assertTrue(high is None or number <= high, (told, one, boxes))
                self.assertTrue(low is None or number >= low, (told, one, boxes))
                seen.add((number == high, number == low))
        # The ends are not only kept to, but reached.
        self.assertEqual(seen, set(itertools.product((True, False), repeat=2)))

    def test_nothing_handed_in_is_changed(self):
        for one in ([5, 1, -1, 0], [5, 2, -2, 0], [5, 0, 0, 1]):
            check_own(self, least, copy.deepcopy(THREE), one)


class Recast(Case):
    def tells(self, told, sums, wanted):
        self.is_thing(recast(told, sums), wanted, (told, sums))

    def test_never(self):
        self.tells(None, [], None)
        self.tells(None, [[0]], None)
        self.tells(None, [[0, 1], [3, 0]], None)

    def test_no_sums(self):
        for told in (NO_BOXES, one_box(0, 3, (2, 1)), THREE, over(9, {}), one_box(3, 1, ALL), one_box(0, 0, (2, 1))):
            self.tells(told, [], NO_BOXES)

    def test_no_boxes(self):
        self.tells(NO_BOXES, [[4]], one_box(4, 4, (0, 4)))
        apart = {(1, 0): 4, (0, 1): -4, (2, 0): 9, (0, 2): -9, (1, 2): -5, (2, 1): 5}
        self.tells(NO_BOXES, [[4], [9]], over(2, apart, [(0, 4), (0, 9)]))

    def test_the_boxes_themselves(self):
        for dice, n, told in some_things(24, 500):
            self.tells(told, [book.box(i, n) for i in range(1, n + 1)], sharp(told))

    def test_the_boxes_in_another_order(self):
        told = over(3, {(1, 2): 1, (2, 3): 2, (3, 1): 4, (1, 0): 8}, [(2, 1), ALL, ALL])
        moved = over(3, {(2, 3): 1, (3, 1): 2, (1, 2): 4, (2, 0): 8}, [ALL, (2, 1), ALL])
        self.tells(told, [[0, 0, 0, 1], [0, 1, 0, 0], [0, 0, 1, 0]], sharp(moved))

    def test_fewer_sums(self):
        told = over(2, {(1, 0): 9, (0, 1): 0, (1, 2): 2, (2, 1): 3})
        self.tells(told, [[0, 1, 0]], one_box(0, 9, ALL))
        self.tells(told, [[10, 2, 0]], one_box(10, 28, (2, 0)))
        self.tells(told, [[0, 1, -1]], one_box(-3, 2, ALL))
        self.tells(told, [[0, 1, 1]], one_box(None, None, ALL))

    def test_more_sums(self):
        told = one_box(0, 5, ALL)
        # Boxes 2 and 3 are 1 more than box 1 and 10 less box 1.
        wanted = {(1, 0): 5, (0, 1): 0, (2, 0): 6, (0, 2): -1, (3, 0): 10, (0, 3): -5, (2, 1): 1, (1, 2): -1,
                  (1, 3): 0, (3, 1): 10, (2, 3): 1, (3, 2): 9}
        self.tells(told, [[0, 1], [1, 1], [10, -1]], over(3, wanted))

    def test_one_sum_twice(self):
        told = over(2, {}, [(3, 1), ALL])
        wanted = over(2, {(1, 2): 0, (2, 1): 0}, [(3, 1), (3, 1)])
        self.tells(told, [[0, 1, 0], [0, 1, 0]], wanted)
        self.tells(told, [[0, 1, 5], [0, 1, 5]], over(2, {(1, 2): 0, (2, 1): 0}))
        self.tells(told, [[0, 1, 5], [7, 1, 5]], over(2, {(1, 2): -7, (2, 1): 7}))

    def test_sums_that_use_no_box(self):
        told = over(1, {})
        self.tells(told, [[5, 0]], one_box(5, 5, (0, 5)))
        wanted = over(2, {(1, 0): 5, (0, 1): -5}, [(0, 5), ALL])
        self.tells(told, [[5, 0], [0, 1]], wanted)

    def test_bounds_between_each_two(self):
        told = over(2, {(1, 0): 10, (0, 1): 0, (2, 0): 6, (0, 2): -2, (1, 2): 3, (2, 1): 0})
        sums = [[0, 2, 0], [0, 1, 1], [0, 1, 2]]
        # By the ends alone but for the second less the first, which is box 2 less box 1, and its counterpart.
        raw = {(1, 0): 20, (0, 1): 0, (2, 0): 16, (0, 2): -2, (3, 0): 22, (0, 3): -4,
               (1, 2): 3, (2, 1): 0, (2, 3): -2, (3, 2): 6, (1, 3): 10 - 2 * 2, (3, 1): 2 * 6 - 0}
        self.tells(told, sums, sharp(over(3, raw, [(2, 0), ALL, ALL])))
        self.assertEqual(recast(told, sums)[0][2][1], 0)

    def test_rests(self):
        told = over(2, {}, [(6, 1), (4, 3)])
        self.assertEqual(recast(told, [[5, 2, 0]])[1], [(12, 7)])
        self.assertEqual(recast(told, [[0, 1, 1]])[1], [(2, 0)])
        self.assertEqual(recast(told, [[0, 2, 3]])[1], [(12, 11)])
        self.assertEqual(recast(told, [[0, -1, 0]])[1], [(6, 5)])
        self.assertEqual(recast(told, [[0, 1, -1], [1, 1, 0]])[1], [(2, 0), (6, 2)])

    def test_then_it_is_sharpened(self):
        self.tells(one_box(0, 10, (3, 1)), [[1, 2]], one_box(3, 21, (6, 3)))
        self.tells(one_box(2, 2, ALL), [[1, 2]], one_box(5, 5, (0, 5)))
        self.tells(over(1, {}, [(0, 3)]), [[0, 1]], one_box(3, 3, (0, 3)))

    def test_it_is_not_sharpened_first(self):
        self.tells(over(2, {(1, 0): 5, (2, 1): 2}), [[0, 0, 1]], over(1, {}))
        self.tells(over(2, {(1, 0): 5, (2, 1): 2}), [[0, 0, 2]], over(1, {}, [(2, 0)]))
        self.tells(one_box(0, 6, (4, 1)), [[0, 1], [0, 3]], sharp(over(2, {
            (1, 0): 6, (0, 1): 0, (2, 0): 18, (0, 2): 0, (1, 2): 0, (2, 1): 12}, [(4, 1), (12, 3)])))

    def test_it_can_be_never_behind_it(self):
        self.tells(one_box(3, 1, ALL), [[0, 1]], None)
        self.tells(one_box(3, 1, ALL), [[7, 0]], one_box(7, 7, (0, 7)))
        self.tells(one_box(0, 0, (2, 1)), [[0, 1]], None)
        self.tells(over(2, {(1, 2): -3, (2, 1): 1}), [[0, 1, -1]], None)

    def test_many_figures(self):
        self.tells(one_box(-GREAT, GREAT, ALL), [[GREAT, GREAT]],
                   one_box(GREAT - GREAT * GREAT, GREAT + GREAT * GREAT, (GREAT, 0)))

    def test_nine_boxes(self):
        sums = [[i] + [i if i == j else 0 for j in range(1, 10)] for i in range(1, 10)]
        told = over(9, {(i, 0): i for i in range(1, 10)}, [(i, 0) for i in range(1, 10)])
        self.assertEqual([row[0] for row in recast(told, sums)[0]], [0] + [i * i + i for i in range(1, 10)])
        self.assertEqual(recast(told, sums)[1], [(1, 0)] + [(i * i, i) for i in range(2, 10)])

    def test_by_the_book(self):
        seen = set()
        for dice, n, told in some_things(25, 1500):
            sums = [some_sum(dice, n) for k in range(dice.throw(6))]
            found = recast(told, sums)
            seen.add((len(sums), found is None))
            self.is_thing(found, book.recast(told, sums), (told, sums))
        self.assertEqual(seen, {(0, False)} | set(itertools.product(range(1, 6), (True, False))))

    def test_the_values_lie_in_it(self):
        many = 0
        for dice, n, told in some_things(26, 400, (1, 2)):
            sums = [some_sum(dice, n) for k in range(dice.throw(5))]
            found = recast(told, sums)
            for boxes in boxes_of(told, n, 7):
                many += 1
                self.assertIs(told_has(found, [value(one, boxes) for one in sums]), True, (told, sums, boxes))
        self.assertGreater(many, 2000)

    def test_what_is_told_can_be_handed_in_again(self):
        told = over(2, {(1, 0): 9, (0, 1): 0, (1, 2): 2}, [(3, 1), ALL])
        for turn in range(60):
            told = recast(told, [[GREAT, 1, -1], [1, GREAT, 2]])
            self.assertTrue(is_told(told))

    def test_what_is_told_is_the_askers_own(self):
        for sums in ([], [[0, 1, 0, 0]], [[0, 1, 0, 0], [0, 0, 1, 0], [0, 0, 0, 1]], [[1, 2, 3, 0]] * 2):
            check_own(self, recast, copy.deepcopy(THREE), sums)
        check_own(self, recast, None, [[0, 1]])
        check_own(self, recast, ([[0]], []), [])
        check_own(self, recast, ([[0]], []), [[3]])


class Anew(Case):
    def tells(self, told, x, span, left, wanted):
        self.is_thing(anew(told, x, span, left), wanted, (told, x, span, left))

    def test_never(self):
        self.tells(None, 1, (0, 3), ALL, None)
        self.tells(None, 2, (None, None), (0, 0), None)

    def test_one_box(self):
        for told in (one_box(-3, 5, (2, 1)), over(1, {}), one_box(3, 1, ALL), one_box(4, 4, (0, 4))):
            self.tells(told, 1, (10, 20), ALL, one_box(10, 20, ALL))
            self.tells(told, 1, (10, None), ALL, one_box(10, None, ALL))
            self.tells(told, 1, (None, 20), ALL, one_box(None, 20, ALL))
            self.tells(told, 1, (None, None), ALL, over(1, {}))
            self.tells(told, 1, (None, None), (4, 3), over(1, {}, [(4, 3)]))
            self.tells(told, 1, (0, 0), ALL, one_box(0, 0, (0, 0)))

    def test_bounds_of_the_box_and_of_the_others(self):
        pairs = list(itertools.permutations(range(4), 2))
        told = over(3, {pair: 100 for pair in pairs}, [(2, 0), (2, 0), (2, 0)])
        for x in (1, 2, 3):
            rests = [(2, 0), (2, 0), (2, 0)]
            rests[x - 1] = ALL
            others = {pair: 100 for pair in pairs if x not in pair}
            ends = {(x, 0): 7, (0, x): 5}
            # What lies between the box and the others comes by way of nought alone.
            by_nought = {(x, j): 107 for j in (1, 2, 3) if j != x}
            by_nought.update({(j, x): 105 for j in (1, 2, 3) if j != x})
            self.tells(told, x, (-5, 7), ALL, over(3, {**others, **ends, **by_nought}, rests))
            self.tells(told, x, (None, None), ALL, over(3, others, rests))
            free = dict(others)
            free.update({(x, 0): 7})
            free.update({(x, j): 107 for j in (1, 2, 3) if j != x})
            self.tells(told, x, (None, 7), ALL, over(3, free, rests))
            free = dict(others)
            free.update({(0, x): 5})
            free.update({(j, x): 105 for j in (1, 2, 3) if j != x})
            self.tells(told, x, (-5, None), ALL, over(3, free, rests))

    def test_the_rest_of_the_box_and_of_the_others(self):
        told = over(3, {}, [(2, 1), (3, 1), (5, 1)])
        self.tells(told, 1, (None, None), (7, 3), over(3, {}, [(7, 3), (3, 1), (5, 1)]))
        self.tells(told, 2, (None, None), (7, 3), over(3, {}, [(2, 1), (7, 3), (5, 1)]))
        self.tells(told, 3, (None, None), (7, 3), over(3, {}, [(2, 1), (3, 1), (7, 3)]))

    def test_then_it_is_sharpened(self):
        self.tells(one_box(0, 1, ALL), 1, (0, 9), (5, 2), one_box(2, 7, (5, 2)))
        self.tells(one_box(0, 1, ALL), 1, (4, 4), ALL, one_box(4, 4, (0, 4)))
        self.tells(one_box(0, 1, ALL), 1, (None, None), (0, 6), one_box(6, 6, (0, 6)))
        self.tells(one_box(0, 1, ALL), 1, (3, 4), (5, 0), None)
        self.tells(one_box(0, 1, ALL), 1, (4, 4), (2, 1), None)

    def test_it_is_not_sharpened_first(self):
        # Box 3 is known by way of box 2 alone, and that is gone.
        told = over(3, {(2, 0): 5, (3, 2): 2})
        self.tells(told, 2, (0, 0), ALL, over(3, {(2, 0): 0, (0, 2): 0}, [ALL, (0, 0), ALL]))
        tied = over(2, {(1, 2): 0, (2, 1): 0}, [(4, 1), ALL])
        self.tells(tied, 1, (None, None), ALL, over(2, {}))
        # What nothing lies in ahead may be something behind.
        self.tells(over(2, {(1, 2): -1, (2, 1): -1}), 1, (0, None), ALL, over(2, {(0, 1): 0}))

    def test_others_that_are_never_stay_so(self):
        self.tells(over(2, {(2, 0): 1, (0, 2): -3}), 1, (None, None), ALL, None)
        self.tells(over(2, {(2, 0): 1, (0, 2): -1}, [ALL, (2, 0)]), 1, (None, None), ALL, None)

    def test_many_figures(self):
        self.tells(one_box(0, 1, ALL), 1, (-GREAT, GREAT), ALL, one_box(-GREAT, GREAT, ALL))
        self.tells(one_box(0, 1, ALL), 1, (0, 10 * GREAT), (GREAT, 1), one_box(1, 9 * GREAT + 1, (GREAT, 1)))

    def test_by_the_book(self):
        ends = (None, -8, -3, 0, 2)
        for dice, n, told in some_things(27, 1500):
            lo = dice.choice(ends)
            span = (lo, None if dice.throw(3) == 0 else (lo or 0) + dice.throw(9))
            x = 1 + dice.throw(n)
            left = dice.choice(RESTS)
            self.is_thing(anew(told, x, span, left), book.anew(told, x, span, left), (told, x, span, left))

    def test_boxes_with_a_number_of_both_lie_in_it(self):
        for dice, n, told in some_things(28, 200, (2,)):
            lo = dice.throw(7) - 4
            left = dice.choice(RESTS)
            found = anew(told, 2, (lo, lo + 6), left)
            for boxes in boxes_of(told, n, 5):
                for number in range(lo, lo + 7):
                    if told_has(one_box(lo, lo + 6, left), [number]):
                        self.assertIs(told_has(found, [boxes[0], number]), True, (told, boxes, number))

    def test_what_is_told_is_the_askers_own(self):
        for x in (1, 2, 3):
            check_own(self, anew, copy.deepcopy(THREE), x, (None, 3), (2, 1))
        check_own(self, anew, None, 1, (0, 3), ALL)


if __name__ == "__main__":
    unittest.main()
