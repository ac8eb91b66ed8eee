import copy
import itertools
import unittest

import book
from kinds import check_own, is_told
from seer.sums import holds, value
from seer.tolds import sharp, told_has, told_inside
from seer.whens import at_most, when
from things import ALL, GREAT, NO_BOXES, Case, boxes_of, one_box, over, some_claim, some_sum, some_things


class AtMost(Case):
    def tells(self, told, one, top, wanted):
        self.is_thing(at_most(told, one, top), wanted, (told, one, top))

    def test_never(self):
        self.tells(None, [0], 5, None)
        self.tells(None, [0, 1], -5, None)

    def test_no_boxes(self):
        self.tells(NO_BOXES, [4], 4, NO_BOXES)
        self.tells(NO_BOXES, [4], 5, NO_BOXES)
        self.tells(NO_BOXES, [4], 3, None)

    def test_no_box_used(self):
        for told in (one_box(-3, 7, (2, 1)), over(1, {}), over(2, {(1, 2): 3, (2, 1): 4})):
            nothing = [0] * len(told[1])
            self.tells(told, [4] + nothing, 4, told)
            self.tells(told, [4] + nothing, 100, told)
            self.tells(told, [4] + nothing, 3, None)

    def test_one_box(self):
        told = one_box(0, 9, ALL)
        self.tells(told, [0, 1], 5, one_box(0, 5, ALL))
        self.tells(told, [3, 1], 5, one_box(0, 2, ALL))
        self.tells(told, [-3, 1], 5, one_box(0, 8, ALL))
        self.tells(told, [0, -1], -3, one_box(3, 9, ALL))
        self.tells(told, [1, -1], -3, one_box(4, 9, ALL))

    def test_the_least_against_top(self):
        told = one_box(2, 9, ALL)
        self.tells(told, [0, 1], 1, None)
        self.tells(told, [0, 1], 2, one_box(2, 2, (0, 2)))
        self.tells(told, [0, 1], 3, one_box(2, 3, ALL))
        self.tells(told, [0, -1], -10, None)
        self.tells(told, [0, -1], -9, one_box(9, 9, (0, 9)))
        self.tells(told, [0, 3], 5, None)
        self.tells(told, [0, 3], 6, one_box(2, 2, (0, 2)))
        apart = over(2, {(2, 1): -3})
        self.tells(apart, [0, 1, -1], 2, None)
        self.tells(apart, [0, 1, -1], 3, over(2, {(1, 2): 3, (2, 1): -3}))

    def test_the_least_is_taken_as_it_is(self):
        # What it is by the other box, or by the rest, is seen by the sharpening alone.
        self.tells(over(2, {(0, 1): -5, (1, 2): 0}), [0, 0, 1], 3, None)
        self.tells(one_box(0, 9, (5, 2)), [0, 1], 1, None)
        self.tells(one_box(5, 3, ALL), [0, 1], 4, None)
        self.tells(one_box(5, 3, ALL), [0, 0], 0, None)

    def test_quotients_are_rounded_down(self):
        told = one_box(-9, 9, ALL)
        for k, top, hi in ((2, 7, 3), (2, 6, 3), (2, 5, 2), (2, -7, -4), (2, -6, -3), (3, -7, -3), (3, 7, 2), (4, 3, 0),
                           (4, -1, -1), (5, 0, 0)):
            self.tells(told, [0, k], top, one_box(-9, hi, ALL))
            self.tells(told, [0, -k], top, one_box(-hi, 9, ALL))
        self.tells(told, [1, 3], 6, one_box(-9, 1, ALL))
        self.tells(told, [1, -3], 6, one_box(-1, 9, ALL))

    def test_bounds_that_stay(self):
        for told in (one_box(0, 3, ALL), over(1, {(1, 0): 3}), one_box(-2, 5, (7, 5))):
            self.tells(told, [0, 1], 5, told)
            self.tells(told, [0, 2], 11, told)
        self.tells(over(2, {(1, 2): 3}), [0, 1, -1], 4, over(2, {(1, 2): 3}))

    def test_bounds_that_were_none(self):
        self.tells(over(1, {}), [0, 1], 5, one_box(None, 5, ALL))
        self.tells(over(1, {}), [0, -1], 5, one_box(-5, None, ALL))
        self.tells(over(1, {}), [0, 4], 5, one_box(None, 1, ALL))
        self.tells(over(1, {}), [0, -4], 5, one_box(-1, None, ALL))
        self.tells(over(2, {}), [0, 1, -1], 4, over(2, {(1, 2): 4}))
        self.tells(over(2, {}), [1, -1, 1], 4, over(2, {(2, 1): 3}))
        self.tells(over(3, {}), [0, 0, 1, -1], -4, over(3, {(2, 3): -4}))

    def test_bounds_that_stay_none(self):
        for one in ([0, 1, 1], [0, 2, -2], [0, 1, -2], [5, -1, -1]):
            self.tells(over(2, {}), one, 4, over(2, {}))

    def test_two_boxes_and_their_ends(self):
        told = over(2, {(0, 1): 0, (0, 2): -3})
        wanted = {(0, 1): 0, (0, 2): -3, (1, 0): 7, (2, 0): 10, (1, 2): 4, (2, 1): 10}
        self.tells(told, [0, 1, 1], 10, over(2, wanted))

    def test_two_boxes_by_what_the_sum_has_more(self):
        told = over(2, {(0, 1): -1})
        self.tells(told, [0, 2, -1], 0, over(2, {(0, 1): -1, (1, 2): -1, (0, 2): -2}))

    def test_a_box_that_the_sum_does_not_use(self):
        # Box 3 is not above box 1, which is not above 10 less box 2.
        told = over(3, {(3, 1): 0, (0, 2): -4})
        wanted = {(3, 1): 0, (0, 2): -4, (1, 0): 6, (3, 0): 6, (1, 2): 2, (3, 2): 2}
        self.tells(told, [0, 1, 1, 0], 10, over(3, wanted))

    def test_of_several_the_least_is_left(self):
        told = over(2, {(0, 1): 0, (1, 0): 9, (0, 2): 0})
        self.assertEqual(at_most(told, [0, 2, 1], 10)[0][1][0], 5)
        # Here box 1 less nought lowers more than the quotient: by how far both boxes lie apart.
        told = over(2, {(2, 1): -5, (2, 0): 100, (1, 0): 200})
        self.tells(told, [0, 2, -1], 0, over(2, {(1, 0): -5, (2, 1): -5, (2, 0): -10}))

    def test_it_is_not_sharpened_first(self):
        told = over(3, {(1, 0): 5, (2, 1): 2})
        self.tells(told, [0, 0, -2, 1], 0, over(3, {(1, 0): 5, (2, 1): 2, (2, 0): 7}))
        self.assertEqual(at_most(sharp(told), [0, 0, -2, 1], 0)[0][3][0], 14)

    def test_all_by_the_told_thing_that_was_handed_in(self):
        # Box 3 less box 2 has no bound yet, so -3 times box 1 has none: that one comes to be lowered changes nothing.
        told = over(3, {(0, 2): 4, (1, 0): 3, (1, 2): 10, (2, 0): -2, (2, 3): -2, (3, 0): 5}, [ALL, (6, 2), ALL])
        wanted = {(0, 1): 11, (0, 2): 4, (0, 3): 2, (1, 0): 3, (1, 2): 7, (1, 3): 5, (2, 0): -4, (2, 1): 7, (2, 3): -2,
                  (3, 0): 5, (3, 1): 16, (3, 2): 9}
        self.tells(told, [0, -3, 1, -1], -4, over(3, wanted, [ALL, (0, -4), ALL]))

    def test_then_it_is_sharpened(self):
        self.tells(one_box(0, 9, (5, 2)), [0, 1], 6, one_box(2, 2, (0, 2)))
        self.tells(one_box(0, 20, (5, 2)), [0, 1], 100, one_box(2, 17, (5, 2)))
        self.tells(over(2, {(1, 2): 3}), [0, 0, 1], 4, over(2, {(1, 2): 3, (2, 0): 4, (1, 0): 7}))

    def test_many_figures(self):
        self.tells(one_box(-GREAT, GREAT, ALL), [0, 7], GREAT, one_box(-GREAT, GREAT // 7, ALL))
        self.tells(one_box(-GREAT, GREAT, ALL), [0, -7], -GREAT, one_box(-(-GREAT // 7), GREAT, ALL))
        self.tells(one_box(-GREAT, GREAT, ALL), [0, GREAT], 0, one_box(-GREAT, 0, ALL))
        self.tells(over(2, {}), [GREAT, 1, -1], -GREAT, over(2, {(1, 2): -2 * GREAT}))

    def test_by_the_book(self):
        seen = set()
        for dice, n, told in some_things(31, 3000):
            one = some_sum(dice, n)
            top = dice.throw(25) - 12
            found = at_most(told, one, top)
            seen.add(found is None)
            self.is_thing(found, book.at_most(told, one, top), (told, one, top))
        self.assertEqual(seen, {True, False})

    def test_it_is_inside_and_no_boxes_that_keep_to_it_are_lost(self):
        lost = 0
        for dice, n, told in some_things(32, 500, (1, 2)):
            one = some_sum(dice, n)
            top = dice.throw(15) - 7
            found = at_most(told, one, top)
            self.assertIs(told_inside(found, told), True)
            for boxes in boxes_of(told, n, 7):
                if value(one, boxes) <= top:
                    self.assertIs(told_has(found, boxes), True, (told, one, top, boxes))
                else:
                    lost += not told_has(found, boxes)
        self.assertGreater(lost, 1000)

    def test_what_is_told_is_the_askers_own(self):
        told = over(2, {(0, 1): 0, (1, 0): 9, (0, 2): 0}, [(2, 1), ALL])
        for one, top in itertools.product(([0, 2, 1], [0, 0, 0], [3, 1, -1]), (-10, 10)):
            check_own(self, at_most, copy.deepcopy(told), one, top)
        check_own(self, at_most, None, [0, 1], 3)
        check_own(self, at_most, ([[0]], []), [3], 3)


class Claims(Case):
    def tells(self, told, claim, truth, wanted):
        self.is_thing(when(told, claim, truth), wanted, (told, claim, truth))


class Under(Claims):
    def tells_both(self, told, one, true, false):
        self.tells(told, ("under", one), True, true)
        self.tells(told, ("under", one), False, false)

    def test_never(self):
        self.tells_both(None, [0, 1], None, None)
        self.tells_both(None, [-5], None, None)

    def test_no_boxes(self):
        self.tells_both(NO_BOXES, [-1], NO_BOXES, None)
        self.tells_both(NO_BOXES, [0], None, NO_BOXES)
        self.tells_both(NO_BOXES, [1], None, NO_BOXES)

    def test_one_box(self):
        self.tells_both(one_box(-5, 5, ALL), [0, 1], one_box(-5, -1, ALL), one_box(0, 5, ALL))
        self.tells_both(one_box(-5, 5, ALL), [-3, 1], one_box(-5, 2, ALL), one_box(3, 5, ALL))
        self.tells_both(one_box(-5, 5, ALL), [0, -1], one_box(1, 5, ALL), one_box(-5, 0, ALL))
        self.tells_both(over(1, {}), [0, 1], one_box(None, -1, ALL), one_box(0, None, ALL))

    def test_one_box_several_times(self):
        self.tells_both(one_box(-5, 5, ALL), [1, 2], one_box(-5, -1, ALL), one_box(0, 5, ALL))
        self.tells_both(one_box(-5, 5, ALL), [-7, 3], one_box(-5, 2, ALL), one_box(3, 5, ALL))
        self.tells_both(one_box(-5, 5, ALL), [-7, -3], one_box(-2, 5, ALL), one_box(-5, -3, ALL))

    def test_one_of_both_is_never(self):
        self.tells_both(one_box(0, 5, ALL), [0, 1], None, one_box(0, 5, ALL))
        self.tells_both(one_box(-5, -1, ALL), [0, 1], one_box(-5, -1, ALL), None)

    def test_two_boxes(self):
        self.tells_both(over(2, {}), [0, 1, -1], over(2, {(1, 2): -1}), over(2, {(2, 1): 0}))
        self.tells_both(over(2, {(1, 2): 0}), [-3, 1, -1], over(2, {(1, 2): 0}), None)

    def test_sharpened(self):
        self.tells_both(one_box(0, 20, (5, 2)), [-9, 1], one_box(2, 7, (5, 2)), one_box(12, 17, (5, 2)))


class Same(Claims):
    def holding(self, told, one, wanted):
        self.tells(told, ("same", one), True, wanted)

    def not_holding(self, told, one, wanted):
        self.tells(told, ("same", one), False, wanted)

    def test_never(self):
        self.holding(None, [0, 1], None)
        self.not_holding(None, [0, 1], None)

    def test_no_boxes(self):
        self.holding(NO_BOXES, [0], NO_BOXES)
        self.holding(NO_BOXES, [2], None)
        self.not_holding(NO_BOXES, [0], None)
        self.not_holding(NO_BOXES, [2], NO_BOXES)
        self.not_holding(NO_BOXES, [-2], NO_BOXES)

    def test_one_box(self):
        self.holding(one_box(-5, 5, ALL), [-3, 1], one_box(3, 3, (0, 3)))
        self.holding(one_box(-5, 5, ALL), [-3, -1], one_box(-3, -3, (0, -3)))
        self.holding(one_box(-5, 5, ALL), [-4, 2], one_box(2, 2, (0, 2)))
        self.holding(over(1, {}), [-4, 2], one_box(2, 2, (0, 2)))

    def test_beyond_the_ends(self):
        self.holding(one_box(-5, 5, ALL), [-6, 1], None)
        self.holding(one_box(-5, 5, ALL), [6, 1], None)
        self.holding(one_box(-5, 5, ALL), [-5, 1], one_box(5, 5, (0, 5)))
        self.holding(one_box(-5, 5, ALL), [5, 1], one_box(-5, -5, (0, -5)))

    def test_never_by_the_rest_of_the_sum(self):
        self.holding(over(1, {}), [-3, 2], None)
        self.holding(over(1, {}, [(4, 1)]), [-3, 1], None)
        self.holding(over(2, {}, [(6, 1), (4, 3)]), [1, 1, 1], None)
        self.holding(over(2, {}), [1, 2, 4], None)

    def test_a_box_less_another(self):
        told = over(2, {}, [(4, 1), ALL])
        self.holding(told, [-3, 1, -1], over(2, {(1, 2): 3, (2, 1): -3}, [(4, 1), (4, 2)]))
        self.holding(over(2, {(1, 2): 2}), [-3, 1, -1], None)
        self.holding(over(2, {(1, 2): 3}), [-3, 1, -1], over(2, {(1, 2): 3, (2, 1): -3}))

    def test_rests_met_by_factors_1_and_less_1(self):
        told = over(2, {}, [ALL, (2, 0)])
        self.holding(told, [2, 1, 3], over(2, {}, [(6, 4), (2, 0)]))
        self.holding(told, [2, -1, 3], over(2, {}, [(6, 2), (2, 0)]))
        self.holding(told, [2, 2, 3], told)
        self.holding(told, [2, 0, 3], None)
        self.holding(told, [2, -2, 2], told)

    def test_rests_of_several_boxes_at_once(self):
        told = over(3, {}, [(2, 0), (4, 1), ALL])
        self.holding(told, [1, 1, 1, 4], over(3, {}, [(4, 2), (4, 1), ALL]))
        self.holding(told, [1, -1, 1, 4], over(3, {}, [(4, 2), (4, 1), ALL]))
        told = over(3, {}, [(4, 0), (6, 0), (3, 1)])
        # 6 times box 3 is a multiple of 6 and 6 more, so both others are multiples of 2 and of 3 at once.
        self.holding(told, [0, 1, 1, 6], over(3, {}, [(12, 0), (6, 0), (3, 1)]))
        self.holding(over(3, {}, [(6, 1), (10, 3), (15, 11)]), [0, 1, 1, 1],
                     over(3, {}, [(30, 1), (30, 3), (30, 26)]))

    def test_rests_by_those_that_holding_it_left(self):
        # The tie of both boxes is seen by the sharpening: then both are even, and the sum is odd.
        self.holding(over(2, {(1, 2): 0, (2, 1): 0}, [(2, 0), ALL]), [1, 1, 1], None)
        self.holding(over(2, {(0, 2): 5, (1, 2): 2, (2, 1): -1}, [ALL, (4, 0)]), [0, 3, 1], None)

    def test_rests_met_and_then_sharpened(self):
        # Box 2 is 1 by its rest alone, and lies too near to box 1.
        self.holding(over(2, {(1, 2): -3}, [(0, -1), ALL]), [0, 1, 1], None)
        told = over(2, {(1, 0): 20, (0, 1): 0}, [ALL, (2, 0)])
        found = when(told, ("same", [2, 1, 3]), True)
        self.assertEqual((found[0][1][0], found[0][0][1], found[1][0]), (16, -4, (6, 4)))

    def test_both_holdings_one_behind_the_other(self):
        # Each by itself leaves something.
        told = over(2, {(2, 1): 1}, [(0, 0), (2, 0)])
        self.holding(told, [-4, 1, 1], None)
        self.assertIsNotNone(at_most(told, [-4, 1, 1], 0))
        self.assertIsNotNone(at_most(told, [4, -1, -1], 0))

    def test_the_sum_ahead_of_the_sum_times_less_1(self):
        # That box 1 is 3 is seen by the first sharpening, too late for the greatest of box 2, in time for its least.
        told = over(2, {}, [(0, 3), ALL])
        self.holding(told, [1, 1, 2], over(2, {(1, 0): 3, (0, 1): -3, (0, 2): 2, (1, 2): 5}, [(0, 3), ALL]))
        self.holding(told, [-1, -1, -2], over(2, {(1, 0): 3, (0, 1): -3, (2, 0): -2, (2, 1): -5}, [(0, 3), ALL]))

    def test_not_holding_at_either_end(self):
        self.not_holding(one_box(0, 5, ALL), [0, 1], one_box(1, 5, ALL))
        self.not_holding(one_box(0, 5, ALL), [-5, 1], one_box(0, 4, ALL))
        self.not_holding(one_box(0, 5, ALL), [0, -1], one_box(1, 5, ALL))
        self.not_holding(one_box(0, 5, ALL), [5, -1], one_box(0, 4, ALL))
        self.not_holding(one_box(0, None, ALL), [0, 1], one_box(1, None, ALL))
        self.not_holding(one_box(None, 5, ALL), [-5, 1], one_box(None, 4, ALL))
        self.not_holding(one_box(-5, 0, ALL), [0, 3], one_box(-5, -1, ALL))
        self.not_holding(one_box(0, 5, ALL), [0, 3], one_box(1, 5, ALL))

    def test_not_holding_within(self):
        self.not_holding(one_box(-5, 5, ALL), [0, 1], one_box(-5, 5, ALL))
        self.not_holding(over(1, {}), [0, 1], over(1, {}))
        self.not_holding(one_box(1, 2, ALL), [-3, 2], one_box(1, 2, ALL))

    def test_not_holding_beyond_the_ends(self):
        self.not_holding(one_box(0, 5, ALL), [-9, 1], one_box(0, 5, ALL))
        self.not_holding(one_box(0, 5, ALL), [9, 1], one_box(0, 5, ALL))

    def test_not_holding_by_one_number(self):
        self.not_holding(one_box(4, 4, ALL), [-4, 1], None)
        self.not_holding(one_box(4, 4, (0, 4)), [-12, 3], None)
        self.not_holding(over(2, {(1, 2): 3, (2, 1): -3}), [-3, 1, -1], None)
        self.not_holding(one_box(4, 4, (0, 4)), [-3, 1], one_box(4, 4, (0, 4)))

    def test_not_holding_of_two_boxes(self):
        self.not_holding(over(2, {(1, 2): 0}), [0, 1, -1], over(2, {(1, 2): -1}))
        self.not_holding(over(2, {(2, 1): 0}), [0, 1, -1], over(2, {(2, 1): -1}))
        self.not_holding(over(2, {(1, 2): 1}), [0, 1, -1], over(2, {(1, 2): 1}))
        self.not_holding(over(2, {(1, 2): 2, (2, 1): -1}), [-1, 1, -1], over(2, {(1, 2): 2, (2, 1): -2}))

    def test_not_holding_where_it_is_sharpened_and_where_it_is_as_it_was(self):
        told = one_box(0, 9, (5, 2))
        self.not_holding(told, [-5, 1], told)
        self.not_holding(told, [-2, 1], told)
        self.not_holding(told, [-9, 1], one_box(2, 7, (5, 2)))
        self.not_holding(told, [0, 1], one_box(2, 7, (5, 2)))
        self.not_holding(told, [-20, 1], one_box(2, 7, (5, 2)))
        self.not_holding(told, [20, 1], one_box(2, 7, (5, 2)))
        loose = over(2, {(1, 0): 5, (2, 1): 2})
        self.not_holding(loose, [0, 0, 1], loose)
        self.not_holding(loose, [-5, 1, 0], over(2, {(1, 0): 4, (2, 1): 2, (2, 0): 6}))

    def test_not_holding_one_behind_the_other(self):
        # Only by what the first one left the least of the sum is a number not below 0.
        told = over(2, {(0, 1): -5, (0, 2): 3, (1, 0): 10, (1, 2): 17, (2, 1): -8}, [(6, 5), ALL])
        first = at_most(told, [1, -2, -3], -1)
        self.assertIsNotNone(first)
        self.not_holding(told, [1, -2, -3], None)

    def test_many_figures(self):
        self.holding(over(1, {}), [-GREAT, 1], one_box(GREAT, GREAT, (0, GREAT)))
        self.not_holding(one_box(-GREAT, GREAT, ALL), [-GREAT, 1], one_box(-GREAT, GREAT - 1, ALL))
        self.not_holding(one_box(-GREAT, GREAT, ALL), [GREAT, 1], one_box(1 - GREAT, GREAT, ALL))
        self.holding(over(1, {}, [(GREAT, 1)]), [-2, 1], None)


class Even(Claims):
    def holding(self, told, one, d, wanted):
        self.tells(told, ("even", one, d), True, wanted)

    def not_holding(self, told, one, d, wanted):
        self.tells(told, ("even", one, d), False, wanted)

    def test_never(self):
        for d in (1, 2, 3):
            self.holding(None, [0, 1], d, None)
            self.not_holding(None, [0, 1], d, None)

    def test_no_boxes(self):
        self.holding(NO_BOXES, [6], 3, NO_BOXES)
        self.holding(NO_BOXES, [0], 3, NO_BOXES)
        self.holding(NO_BOXES, [7], 3, None)
        self.not_holding(NO_BOXES, [6], 3, None)
        self.not_holding(NO_BOXES, [7], 3, NO_BOXES)
        self.not_holding(NO_BOXES, [7], 2, NO_BOXES)
        self.not_holding(NO_BOXES, [6], 2, None)

    def test_one_box(self):
        self.holding(over(1, {}), [0, 1], 3, over(1, {}, [(3, 0)]))
        self.holding(over(1, {}), [1, 1], 3, over(1, {}, [(3, 2)]))
        self.holding(over(1, {}), [1, -1], 3, over(1, {}, [(3, 1)]))
        self.holding(over(1, {}), [7, -1], 2, over(1, {}, [(2, 1)]))
        self.holding(over(1, {}, [(4, 2)]), [0, 1], 6, over(1, {}, [(12, 6)]))
        self.holding(over(1, {}, [(4, 1)]), [0, 1], 3, over(1, {}, [(12, 9)]))

    def test_never_by_the_rest_of_the_sum(self):
        self.holding(over(1, {}, [(2, 1)]), [0, 1], 2, None)
        self.holding(over(1, {}, [(2, 1)]), [0, 1], 4, None)
        self.holding(over(1, {}, [(4, 1)]), [0, 1], 2, None)
        self.holding(over(1, {}, [(6, 2)]), [0, 1], 9, None)
        self.holding(over(1, {}, [(0, 5)]), [0, 1], 3, None)
        self.holding(over(1, {}), [1, 2], 2, None)
        self.holding(over(1, {}), [1, 2], 4, None)
        self.holding(over(2, {}, [(2, 0), (2, 0)]), [1, 1, 1], 6, None)

    def test_not_never_by_the_rest_of_the_sum(self):
        self.holding(over(1, {}), [1, 2], 3, over(1, {}))
        self.holding(one_box(5, 5, (0, 5)), [0, 1], 5, one_box(5, 5, (0, 5)))
        self.holding(one_box(0, 0, (0, 0)), [0, 1], 5, one_box(0, 0, (0, 0)))
        self.holding(one_box(-6, -6, (0, -6)), [0, 1], 3, one_box(-6, -6, (0, -6)))

    def test_by_1(self):
        for left in (ALL, (2, 1), (5, 3)):
            self.holding(over(1, {}, [left]), [7, 1], 1, over(1, {}, [left]))
            self.holding(over(1, {}, [left]), [7, 2], 1, over(1, {}, [left]))
            self.not_holding(over(1, {}, [left]), [7, 1], 1, None)
        self.not_holding(one_box(3, 3, (0, 3)), [7, 1], 1, None)

    def test_two_boxes(self):
        self.holding(over(2, {}, [ALL, (2, 1)]), [0, 1, 1], 2, over(2, {}, [(2, 1), (2, 1)]))
        self.holding(over(2, {}, [ALL, (6, 2)]), [1, 1, -1], 3, over(2, {}, [(3, 1), (6, 2)]))
        self.holding(over(2, {}), [0, 1, 1], 2, over(2, {}))
        self.holding(over(2, {}, [ALL, (0, 7)]), [0, 1, 1], 4, over(2, {
            (2, 0): 7, (0, 2): -7}, [(4, 1), (0, 7)]))

    def test_several_boxes_at_once(self):
        self.holding(over(2, {}, [(2, 1), (4, 3)]), [0, 1, 1], 4, over(2, {}, [(4, 1), (4, 3)]))
        self.holding(over(2, {}, [(4, 3), (2, 1)]), [0, 1, 1], 4, over(2, {}, [(4, 3), (4, 1)]))
        self.holding(over(2, {}, [(2, 1), (3, 1)]), [0, 1, 1], 6, over(2, {}, [(6, 5), (6, 1)]))
        self.holding(over(2, {}, [(2, 1), (3, 1)]), [0, 1, -1], 6, over(2, {}, [(6, 1), (6, 1)]))

    def test_factors_other_than_1_and_less_1(self):
        told = over(2, {}, [ALL, (4, 1)])
        self.holding(told, [0, 2, 3], 3, told)
        self.holding(told, [0, 0, 2], 2, told)
        self.holding(told, [2, 4, 2], 4, told)

    def test_holding_it_is_sharpened(self):
        self.holding(one_box(0, 9, (5, 2)), [0, 2], 4, one_box(2, 7, (5, 2)))
        self.holding(one_box(1, 9, ALL), [0, 1], 5, one_box(5, 5, (0, 5)))
        self.holding(one_box(-2, -1, ALL), [0, 1], 4, None)
        self.holding(one_box(0, 11, ALL), [0, 1], 5, one_box(0, 10, (5, 0)))
        self.holding(over(1, {}, [(0, 4)]), [0, 2], 4, one_box(4, 4, (0, 4)))

    def test_it_is_not_sharpened_first(self):
        # That both boxes are even is seen by the sharpening alone, which comes behind.
        told = over(2, {(1, 2): 0, (2, 1): 0}, [(2, 0), ALL])
        self.holding(told, [1, 0, 1], 2, None)
        self.not_holding(told, [0, 0, 1], 2, None)
        self.not_holding(told, [0, 0, 1], 4, told)

    def test_not_holding_by_2(self):
        self.not_holding(over(1, {}), [0, 1], 2, over(1, {}, [(2, 1)]))
        self.not_holding(over(1, {}), [1, 1], 2, over(1, {}, [(2, 0)]))
        self.not_holding(over(1, {}), [0, -1], 2, over(1, {}, [(2, 1)]))
        self.not_holding(one_box(0, 9, (2, 1)), [0, 1], 2, one_box(1, 9, (2, 1)))
        self.not_holding(one_box(0, 9, (5, 2)), [1, 2], 2, one_box(2, 7, (5, 2)))
        self.not_holding(over(2, {}, [ALL, (2, 0)]), [0, 1, 1], 2, over(2, {}, [(2, 1), (2, 0)]))
        self.not_holding(one_box(4, 4, ALL), [0, 1], 2, None)

    def test_not_holding_never(self):
        self.not_holding(over(1, {}, [(2, 0)]), [0, 1], 2, None)
        self.not_holding(over(1, {}, [(4, 2)]), [0, 1], 2, None)
        self.not_holding(over(1, {}, [(12, 8)]), [0, 1], 4, None)
        self.not_holding(over(1, {}, [(0, 8)]), [0, 1], 4, None)
        self.not_holding(over(1, {}, [(0, 0)]), [0, 1], 4, None)
        self.not_holding(over(1, {}), [6, 3], 3, None)
        self.not_holding(over(1, {}), [0, 2], 2, None)

    def test_not_holding_by_others_it_is_as_it_was(self):
        for left in (ALL, (2, 0), (4, 2), (6, 0), (0, 6)):
            for told in (over(1, {}, [left]), one_box(0, 9, left)):
                self.not_holding(told, [0, 1], 4, told)
        for d in (3, 4, 5, 6, GREAT):
            self.not_holding(one_box(0, 9, (7, 5)), [0, 1], d, one_box(0, 9, (7, 5)))
            self.not_holding(over(1, {}), [1, 2 * d], d, over(1, {}))

    def test_many_figures(self):
        self.holding(over(1, {}), [1, 1], GREAT, over(1, {}, [(GREAT, GREAT - 1)]))
        self.holding(over(1, {}, [(2 * GREAT, 1)]), [0, 1], GREAT, None)
        self.not_holding(over(1, {}, [(2 * GREAT, GREAT)]), [0, 1], GREAT, None)


class When(Claims):
    def test_by_the_book(self):
        seen = set()
        for dice, n, told in some_things(33, 6000):
            claim = some_claim(dice, n)
            truth = dice.throw(2) == 0
            found = when(told, claim, truth)
            seen.add((claim[0], truth, found is None, found == told))
            self.is_thing(found, book.when(told, claim, truth), (told, claim, truth))
        for word, truth in itertools.product(("under", "same", "even"), (True, False)):
            self.assertLessEqual({(word, truth, True, False), (word, truth, False, False), (word, truth, False, True)},
                                 seen)

    def test_it_is_inside_and_no_boxes_for_which_it_is_so_are_lost(self):
        lost = {True: 0, False: 0}
        for dice, n, told in some_things(34, 700, (1, 2)):
            claim = some_claim(dice, n)
            left = {truth: when(told, claim, truth) for truth in (True, False)}
            for truth in (True, False):
                self.assertIs(told_inside(left[truth], told), True, (told, claim, truth))
            for boxes in boxes_of(told, n, 6):
                truth = holds(claim, boxes)
                self.assertIs(told_has(left[truth], boxes), True, (told, claim, boxes))
                lost[truth] += not told_has(left[not truth], boxes)
        self.assertGreater(min(lost.values()), 1000)

    def test_what_is_told_can_be_handed_in_again(self):
        told = over(2, {(1, 0): 40, (0, 1): 0}, [ALL, (3, 1)])
        for claim, truth in ((("even", [0, 1, 1], 2), True), (("same", [-7, 1, -1]), False),
                             (("under", [-30, 1, 0]), True), (("same", [-9, 2, -1]), True),
                             (("even", [0, 0, 1], 4), False)):
            told = when(told, claim, truth)
            self.assertTrue(is_told(told))
            self.assertIsNotNone(told)

    def test_what_is_told_is_the_askers_own(self):
        things = (None, over(2, {(0, 1): 0, (1, 0): 9, (1, 2): 4}, [ALL, (2, 1)]), over(2, {}))
        claims = (("under", [0, 1, -1]), ("same", [0, 1, 1]), ("same", [0, 1, 0]), ("same", [-9, 1, 0]),
                  ("even", [0, 1, 1], 2), ("even", [0, 1, 1], 3), ("even", [0, 1, 1], 1))
        for told, claim, truth in itertools.product(things, claims, (True, False)):
            check_own(self, when, copy.deepcopy(told), copy.deepcopy(claim), truth)


if __name__ == "__main__":
    unittest.main()
