import copy
import itertools
import unittest

from kinds import Dice, check_own, is_stretch, is_told
from seer.grids import closed
from seer.rests import rest_met, rest_plus, rest_times, rest_under
from seer.tolds import grown, of_stretches, sharp, stretches_of, told_has, told_inside, told_joined
from things import ALL, GREAT, NO_BOXES, RESTS, Case, boxes_of, one_box, over, some_told

PAIRS = tuple(itertools.permutations(range(3), 2))


class Has(Case):
    def has(self, told, boxes):
        self.is_truth(told_has(told, boxes), True, (told, boxes))

    def has_not(self, told, boxes):
        self.is_truth(told_has(told, boxes), False, (told, boxes))

    def test_over_no_boxes(self):
        self.has(NO_BOXES, [])

    def test_never(self):
        self.has_not(None, [])
        self.has_not(None, [0])
        self.has_not(None, [1, 2, 3])

    def test_the_ends_of_one_box(self):
        told = one_box(-3, 5, ALL)
        for number in range(-3, 6):
            self.has(told, [number])
        self.has_not(told, [-4])
        self.has_not(told, [6])

    def test_no_bound(self):
        for number in (-GREAT, -1, 0, 1, GREAT):
            self.has(one_box(None, None, ALL), [number])
        self.has(one_box(None, 5, ALL), [-GREAT])
        self.has_not(one_box(None, 5, ALL), [6])
        self.has(one_box(-3, None, ALL), [GREAT])
        self.has_not(one_box(-3, None, ALL), [-4])

    def test_each_bound_by_itself(self):
        for i, j in itertools.permutations(range(4), 2):
            for bound in (-4, 0, 7):
                told = over(3, {(i, j): bound})
                held = [0, 0, 0, 0]
                held[i or j] = bound if i else -bound
                self.has(told, held[1:])
                held[i or j] += 1 if i else -1
                self.has_not(told, held[1:])

    def test_bounds_between_boxes_far_from_nought(self):
        told = over(2, {(1, 2): 3, (2, 1): -1})
        for far in (-1000, 0, 1000):
            self.assertEqual([apart for apart in range(-5, 6) if told_has(told, [far + apart, far])], [1, 2, 3])

    def test_each_rest(self):
        self.assertEqual([n for n in range(-9, 9) if told_has(one_box(None, None, (5, 2)), [n])], [-8, -3, 2, 7])
        self.assertEqual([n for n in range(-9, 9) if told_has(one_box(None, None, (0, -4)), [n])], [-4])
        self.assertEqual([n for n in range(-9, 9) if told_has(one_box(-4, 3, (5, 2)), [n])], [-3, 2])
        for i in range(3):
            rests = [ALL, ALL, ALL]
            rests[i] = (4, 3)
            boxes = [0, 0, 0]
            self.has_not(over(3, {}, rests), boxes)
            boxes[i] = -5
            self.has(over(3, {}, rests), boxes)
            boxes[i] = -4
            self.has_not(over(3, {}, rests), boxes)

    def test_bounds_that_are_not_closed_and_that_nothing_keeps_to(self):
        told = over(2, {(1, 0): 5, (2, 1): 2})
        self.has(told, [5, 7])
        self.has_not(told, [5, 8])
        self.assertEqual(boxes_of(one_box(3, 1, ALL), 1, 9), [])
        self.assertEqual(boxes_of(one_box(1, 2, (0, 3)), 1, 9), [])

    def test_many_figures(self):
        told = one_box(-GREAT, GREAT, ALL)
        self.has(told, [GREAT])
        self.has(told, [-GREAT])
        self.has_not(told, [GREAT + 1])
        self.has_not(told, [-GREAT - 1])
        self.has(one_box(None, None, (GREAT, 1)), [GREAT * GREAT + 1])

    def test_nothing_handed_in_is_changed(self):
        check_own(self, told_has, over(2, {(1, 0): 5}, [(2, 1), ALL]), [3, 4])


class Inside(Case):
    def tells(self, one, other, wanted):
        self.is_truth(told_inside(one, other), wanted, (one, other))

    def test_never(self):
        some = one_box(-3, 5, (2, 1))
        self.tells(None, None, True)
        self.tells(None, some, True)
        self.tells(some, None, False)

    def test_never_is_told_not_found(self):
        empty = one_box(3, 1, ALL)
        self.tells(empty, None, False)
        self.tells(empty, one_box(5, 6, ALL), False)

    def test_over_no_boxes(self):
        self.tells(NO_BOXES, NO_BOXES, True)
        self.tells(None, NO_BOXES, True)
        self.tells(NO_BOXES, None, False)

    def test_in_itself(self):
        for told in (one_box(-3, 5, (2, 1)), one_box(None, None, ALL), over(3, {(1, 2): 4, (3, 1): -2})):
            self.tells(told, copy.deepcopy(told), True)

    def test_each_bound(self):
        for i, j in itertools.permutations(range(4), 2):
            base = over(3, {pair: 4 for pair in itertools.permutations(range(4), 2)})
            for bound, within, about in ((3, True, False), (4, True, True), (5, False, True), (None, False, True)):
                other = copy.deepcopy(base)
                other[0][i][j] = bound
                self.tells(other, base, within)
                self.tells(base, other, about)

    def test_none_against_numbers(self):
        for i, j in itertools.permutations(range(3), 2):
            self.tells(over(2, {(i, j): GREAT}), over(2, {}), True)
            self.tells(over(2, {}), over(2, {(i, j): GREAT}), False)
            self.tells(over(2, {(i, j): -GREAT}), over(2, {}), True)

    def test_each_rest(self):
        for i in range(3):
            base = over(3, {}, [(4, 2), (4, 2), (4, 2)])
            for left, within, about in ((ALL, False, True), ((2, 0), False, True), ((4, 2), True, True),
                                        ((4, 0), False, False), ((2, 1), False, False), ((3, 2), False, False),
                                        ((8, 6), True, False), ((8, 4), False, False), ((0, 6), True, False),
                                        ((0, 4), False, False)):
                other = copy.deepcopy(base)
                other[1][i] = left
                self.tells(other, base, within)
                self.tells(base, other, about)

    def test_it_is_by_what_is_told_not_by_what_lies_in_it(self):
        self.tells(one_box(0, 1, ALL), one_box(0, 1, (2, 0)), False)
        self.tells(one_box(2, 2, ALL), one_box(None, None, (0, 2)), False)
        self.tells(over(2, {(1, 0): 3, (0, 2): -3}), over(2, {(1, 2): 0}), False)

    def test_boxes_in_the_one_lie_in_the_other(self):
        dice = Dice(11)
        seen = set()
        for turn in range(1500):
            one = some_told(dice, 2, (-2, 0, 1), ((2, 0), (4, 2), (3, 1)))
            other = some_told(dice, 2, (0, 1, 3, None), ((1, 0), (2, 0)))
            told = told_inside(one, other)
            seen.add(told)
            if told:
                for boxes in boxes_of(one, 2, 4):
                    self.assertTrue(told_has(other, boxes), (one, other, boxes))
        self.assertEqual(seen, {True, False})

    def test_nothing_handed_in_is_changed(self):
        check_own(self, told_inside, over(2, {(1, 0): 5}, [(2, 1), ALL]), over(2, {}))


class Joined(Case):
    def tells(self, one, other, wanted):
        self.is_thing(told_joined(one, other), wanted, (one, other))
        self.is_thing(told_joined(other, one), wanted, (other, one))

    def test_never(self):
        some = one_box(-3, 5, (2, 1))
        self.tells(None, None, None)
        self.tells(None, some, some)
        empty = one_box(3, 1, (0, 2))
        self.tells(None, empty, empty)

    def test_over_no_boxes(self):
        self.tells(NO_BOXES, NO_BOXES, NO_BOXES)
        self.tells(None, NO_BOXES, NO_BOXES)

    def test_each_bound(self):
        for i, j in itertools.permutations(range(4), 2):
            base = over(3, {pair: 4 for pair in itertools.permutations(range(4), 2)})
            for bound, joined in ((3, 4), (4, 4), (-9, 4), (5, 5), (None, None)):
                other = copy.deepcopy(base)
                other[0][i][j] = bound
                wanted = copy.deepcopy(base)
                wanted[0][i][j] = joined
                self.tells(base, other, wanted)

    def test_none_and_none(self):
        self.tells(over(2, {}), over(2, {}), over(2, {}))

    def test_each_rest(self):
        for i in range(3):
            base = over(3, {}, [(6, 2), (6, 2), (6, 2)])
            for left, joined in (((6, 2), (6, 2)), ((6, 5), (3, 2)), ((6, 4), (2, 0)), ((4, 0), (2, 0)), ((5, 1), ALL),
                                 ((0, 8), (6, 2)), ((0, 5), (3, 2)), ((12, 8), (6, 2)), (ALL, ALL)):
                other = copy.deepcopy(base)
                other[1][i] = left
                wanted = copy.deepcopy(base)
                wanted[1][i] = joined
                self.tells(base, other, wanted)

    def test_two_numbers_alone(self):
        self.tells(one_box(3, 3, (0, 3)), one_box(10, 10, (0, 10)), one_box(3, 10, (7, 3)))
        self.tells(one_box(3, 3, (0, 3)), one_box(3, 3, (0, 3)), one_box(3, 3, (0, 3)))

    def test_it_is_not_sharpened(self):
        self.tells(one_box(0, 7, (4, 1)), one_box(-2, 3, (4, 3)), one_box(-2, 7, (2, 1)))
        loose = over(2, {(2, 1): 2, (1, 0): 5})
        self.tells(loose, loose, loose)

    def test_both_are_inside(self):
        dice = Dice(12)
        for turn in range(600):
            one = some_told(dice, 3, (None, -4, 0, 3), RESTS)
            other = some_told(dice, 3, (None, -2, 1, 5), RESTS)
            told = told_joined(one, other)
            self.assertTrue(is_told(told))
            self.assertIs(told_inside(one, told), True)
            self.assertIs(told_inside(other, told), True)

    def test_many_figures(self):
        self.tells(one_box(-GREAT, GREAT, (GREAT, 1)), one_box(0, GREAT + 1, (GREAT, 2)),
                   one_box(-GREAT, GREAT + 1, ALL))

    def test_what_is_told_is_the_askers_own(self):
        some = over(2, {(1, 0): 5}, [(2, 1), ALL])
        for one, other in itertools.product((None, some), repeat=2):
            check_own(self, told_joined, copy.deepcopy(one), copy.deepcopy(other))
        check_own(self, lambda one: told_joined(one, one), copy.deepcopy(some))
        check_own(self, told_joined, ([[0]], []), ([[0]], []))
        check_own(self, told_joined, None, ([[0]], []))
        check_own(self, told_joined, ([[0]], []), None)


class Never(Exception):
    pass


def step_closed(bounds, rests):
    found = closed(bounds)
    if found is None:
        raise Never
    return found, rests


def step_handed(bounds, rests):
    ahead = [(0, 0)] + rests
    after = list(ahead)
    for i in range(1, len(ahead)):
        for j in range(len(ahead)):
            if j == i or bounds[i][j] is None or bounds[j][i] is None or bounds[i][j] + bounds[j][i] != 0:
                continue
            after[i] = rest_met(after[i], rest_plus(ahead[j], (0, bounds[i][j])))
            if after[i] is None:
                raise Never
    return bounds, after[1:]


def step_lowered(bounds, rests):
    ahead = [(0, 0)] + rests
    after = copy.deepcopy(bounds)
    for i, j in itertools.permutations(range(len(ahead)), 2):
        apart = rest_plus(ahead[i], rest_times(ahead[j], -1))
        if bounds[i][j] is None:
            after[i][j] = apart[1] if apart[0] == 0 else None
        else:
            after[i][j] = rest_under(apart, bounds[i][j])
            if after[i][j] is None:
                raise Never
    return after, rests


STEPS = (step_closed, step_handed, step_lowered, step_closed, step_handed)


def by_steps(told, steps=STEPS):
    if told is None:
        return None
    try:
        for step in steps:
            told = step(*told)
    except Never:
        return None
    return told


class Sharp(Case):
    def tells(self, told, wanted):
        self.is_thing(sharp(told), wanted, told)

    def needs(self, told, wanted, left_out):
        """Tells the wanted one, and would not without one of the five steps."""
        self.tells(told, wanted)
        self.assertEqual(by_steps(told), wanted, told)
        steps = STEPS[:left_out] + STEPS[left_out + 1:]
        self.assertNotEqual(by_steps(told, steps), wanted, told)

    def test_never(self):
        self.tells(None, None)

    def test_over_no_boxes(self):
        self.tells(NO_BOXES, NO_BOXES)

    def test_nothing_told(self):
        for n in range(10):
            self.tells(over(n, {}), over(n, {}))

    def test_closed(self):
        self.tells(over(2, {(2, 1): 2, (1, 0): 5}), over(2, {(2, 1): 2, (1, 0): 5, (2, 0): 7}))
        # Without closing ahead of it, the tie of box 3 to box 1 would not be seen in time for the bound to be lowered.
        told = over(3, {(1, 2): 0, (2, 1): 0, (2, 3): 0, (3, 2): 0, (3, 0): 8}, [(7, 3), ALL, ALL])
        equal = {(i, j): 0 for i, j in itertools.permutations((1, 2, 3), 2)}
        wanted = over(3, {**equal, (1, 0): 3, (2, 0): 3, (3, 0): 3}, [(7, 3)] * 3)
        self.tells(told, wanted)

    def test_closed_it_can_be_never(self):
        self.tells(over(2, {(1, 0): 3, (0, 2): -5, (2, 1): 1}), None)
        self.tells(one_box(3, 1, ALL), None)
        self.tells(over(3, {(1, 2): 1, (2, 3): 1, (3, 1): -3}), None)

    def test_a_closing_that_the_later_one_cannot_make_good(self):
        # Box 1 is 4 by two ways through box 2; only so its rest is known when bounds are lowered.
        same = {(1, 2): 0, (2, 1): 0, (2, 0): 4, (0, 2): -4}
        told = over(3, {**same, (1, 3): 3}, [ALL, ALL, (5, 0)])
        wanted = {**same, (1, 0): 4, (0, 1): -4, (1, 3): -1, (2, 3): -1, (0, 3): -5}
        self.needs(told, over(3, wanted, [(0, 4), (0, 4), (5, 0)]), 0)

    def test_rests_handed_over(self):
        told = over(2, {(1, 2): 3, (2, 1): -3}, [(4, 1), (6, 0)])
        self.tells(told, over(2, {(1, 2): 3, (2, 1): -3}, [(12, 9), (12, 6)]))
        told = over(2, {(1, 2): -2, (2, 1): 2}, [(5, 0), ALL])
        self.tells(told, over(2, {(1, 2): -2, (2, 1): 2}, [(5, 0), (5, 2)]))

    def test_rests_handed_over_where_several_meet(self):
        ties = {(i, j): i - j for i, j in itertools.permutations((1, 2, 3), 2)}
        told = over(3, ties, [(2, 1), (3, 2), (5, 3)])
        self.tells(told, over(3, ties, [(30, 1), (30, 2), (30, 3)]))
        told = over(3, ties, [(6, 1), (10, 2), (15, 3)])
        self.tells(told, over(3, ties, [(30, 1), (30, 2), (30, 3)]))

    def test_rests_are_handed_over_to_tied_boxes_alone(self):
        told = over(3, {(1, 2): 0, (2, 1): 0, (1, 3): 0, (3, 1): 2}, [(4, 1), ALL, (1, 0)])
        wanted = over(3, {(1, 2): 0, (2, 1): 0, (1, 3): 0, (3, 1): 2, (2, 3): 0, (3, 2): 2}, [(4, 1), (4, 1), ALL])
        self.tells(told, wanted)

    def test_rests_handed_over_by_nought(self):
        self.tells(one_box(4, 4, ALL), one_box(4, 4, (0, 4)))
        self.tells(one_box(-4, -4, (3, 2)), one_box(-4, -4, (0, -4)))
        self.tells(one_box(0, 0, ALL), one_box(0, 0, (0, 0)))

    def test_rests_with_no_number_in_common(self):
        self.tells(over(2, {(1, 2): 0, (2, 1): 0}, [(2, 0), (2, 1)]), None)
        self.tells(over(2, {(1, 2): 1, (2, 1): -1}, [(4, 0), (6, 0)]), None)
        self.tells(one_box(4, 4, (3, 0)), None)
        self.tells(one_box(4, 4, (0, 5)), None)
        ties = {(i, j): 0 for i, j in itertools.permutations((1, 2, 3), 2)}
        self.tells(over(3, ties, [(2, 0), (3, 0), (6, 1)]), None)

    def test_the_first_handing_over_is_needed(self):
        # Box 2 must be known to be of the rest (5, 2) before its bound to box 3 is lowered.
        told = over(3, {(1, 2): 0, (2, 1): 0, (2, 3): 9}, [(5, 2), ALL, (5, 0)])
        wanted = over(3, {(1, 2): 0, (2, 1): 0, (2, 3): 7, (1, 3): 7}, [(5, 2), (5, 2), (5, 0)])
        self.tells(told, wanted)
        told = over(2, {(1, 2): 0, (2, 1): 0, (0, 2): -8}, [(5, 2), (3, 1)])
        self.needs(told, over(2, {(1, 2): 0, (2, 1): 0, (0, 2): -22, (0, 1): -22}, [(15, 7), (15, 7)]), 1)

    def test_bounds_lowered(self):
        self.tells(one_box(0, 9, (5, 2)), one_box(2, 7, (5, 2)))
        self.tells(one_box(2, 7, (5, 2)), one_box(2, 7, (5, 2)))
        self.tells(one_box(3, 11, (5, 2)), ([[0, -7], [7, 0]], [(0, 7)]))
        self.tells(one_box(-9, 0, (5, 2)), one_box(-8, -3, (5, 2)))
        self.needs(one_box(0, 9, (5, 2)), one_box(2, 7, (5, 2)), 2)

    def test_bounds_between_boxes_lowered(self):
        told = over(2, {(1, 2): 4, (2, 1): 4}, [(4, 1), (6, 0)])
        self.tells(told, over(2, {(1, 2): 3, (2, 1): 3}, [(4, 1), (6, 0)]))
        told = over(2, {(1, 2): 4, (2, 1): 4}, [(4, 1), (5, 0)])
        self.tells(told, told)
        told = over(2, {(1, 2): 8}, [(9, 1), (9, 5)])
        self.tells(told, over(2, {(1, 2): 5}, [(9, 1), (9, 5)]))

    def test_bounds_lowered_where_there_is_none(self):
        self.tells(one_box(None, 2, (0, 3)), None)
        self.tells(one_box(4, None, (0, 3)), None)
        self.tells(over(2, {(1, 2): 2}, [(0, 8), (0, 5)]), None)
        self.tells(over(2, {(2, 1): -4}, [(0, 8), (0, 5)]), None)
        self.needs(one_box(None, 2, (0, 3)), None, 2)

    def test_bounds_lowered_to_a_number_alone(self):
        self.tells(one_box(None, 3, (0, 3)), one_box(3, 3, (0, 3)))
        self.tells(one_box(None, 4, (0, 3)), one_box(3, 3, (0, 3)))
        self.tells(one_box(2, None, (0, 3)), one_box(3, 3, (0, 3)))

    def test_no_bound_becomes_the_number_where_it_is_known(self):
        self.needs(one_box(None, None, (0, 3)), one_box(3, 3, (0, 3)), 2)
        self.tells(over(2, {}, [(0, 3), (0, -5)]), (
            [[0, -3, 5], [3, 0, 8], [-5, -8, 0]], [(0, 3), (0, -5)]))

    def test_no_bound_stays_where_it_is_not_known(self):
        for left in (ALL, (2, 1), (10 ** 40, 7)):
            self.tells(one_box(None, None, left), one_box(None, None, left))
        self.tells(over(2, {}, [(4, 1), (6, 0)]), over(2, {}, [(4, 1), (6, 0)]))
        self.tells(over(2, {}, [(0, 3), (6, 0)]), over(2, {(1, 0): 3, (0, 1): -3}, [(0, 3), (6, 0)]))

    def test_closed_again(self):
        told = over(2, {(1, 0): 9, (2, 1): 0}, [(5, 2), ALL])
        self.needs(told, over(2, {(1, 0): 7, (2, 1): 0, (2, 0): 7}, [(5, 2), ALL]), 3)

    def test_closed_again_it_can_be_never(self):
        self.needs(one_box(3, 5, (7, 0)), None, 3)
        self.needs(one_box(1, 3, (4, 0)), None, 3)
        self.needs(over(2, {(1, 2): 1, (2, 1): 1}, [(4, 0), (4, 2)]), None, 3)

    def test_rests_handed_over_again(self):
        self.needs(one_box(3, 6, (5, 4)), one_box(4, 4, (0, 4)), 4)
        told = over(2, {(1, 2): 1, (2, 1): 1}, [(4, 0), (6, 2)])
        self.needs(told, over(2, {(1, 2): 0, (2, 1): 0}, [(12, 8), (12, 8)]), 4)

    def test_rests_handed_over_again_it_can_be_never(self):
        told = over(3, {(1, 3): 4, (3, 1): 0, (3, 2): 4, (2, 3): 4}, [(6, 0), (10, 1), (15, 1)])
        self.needs(told, None, 4)

    def test_bounds_are_not_lowered_again(self):
        # Box 2 is tied to box 1 by the last step only, and box 3 is not held to what that tells.
        told = over(3, {(1, 2): 1, (2, 1): 1, (2, 3): 9}, [(4, 0), (6, 2), (12, 0)])
        self.tells(told, over(3, {(1, 2): 0, (2, 1): 0, (2, 3): 8, (1, 3): 8}, [(12, 8), (12, 8), (12, 0)]))
        told = over(3, {(1, 2): 1, (2, 1): 1, (2, 3): 7}, [(4, 0), (6, 2), (12, 0)])
        self.tells(told, over(3, {(1, 2): 0, (2, 1): 0, (2, 3): 2, (1, 3): 2}, [(12, 8), (12, 8), (12, 0)]))

    def test_many_figures(self):
        self.tells(one_box(1, 3 * GREAT, (GREAT, 0)), one_box(GREAT, 3 * GREAT, (GREAT, 0)))
        self.tells(over(2, {(1, 2): GREAT, (2, 1): -GREAT}, [(0, GREAT), ALL]), (
            [[0, -GREAT, 0], [GREAT, 0, GREAT], [0, -GREAT, 0]], [(0, GREAT), (0, 0)]))
        self.tells(over(2, {(1, 2): 0, (2, 1): 0}, [(GREAT, 5), (GREAT + 1, 5)]),
                   over(2, {(1, 2): 0, (2, 1): 0}, [(GREAT * (GREAT + 1), 5)] * 2))

    def test_nine_boxes(self):
        chain = {(i, i + 1): 0 for i in range(1, 9)}
        chain[(9, 0)] = 20
        told = sharp(over(9, chain, [(7, 3)] + [ALL] * 8))
        self.assertEqual([told[0][i][0] for i in range(1, 10)], [17] + [20] * 8)
        again = sharp(over(9, {**chain, (9, 1): 0}, [(7, 3)] + [ALL] * 8))
        self.assertEqual([again[0][i][0] for i in range(1, 10)], [17] * 9)
        self.assertEqual(again[1], [(7, 3)] * 9)

    def test_by_the_five_steps(self):
        dice = Dice(13)
        nevers = 0
        for turn in range(3000):
            n = 1 + turn % 4
            bounds = ((None, None, -2, 0, 1, 3), (None, 0, 1, 4, 9), (None, None, None, -1, 1, 5))[turn % 3]
            told = some_told(dice, n, bounds, RESTS[:6] if turn % 2 else RESTS)
            wanted = by_steps(told)
            nevers += wanted is None
            self.tells(told, wanted)
        self.assertGreater(nevers, 500)
        self.assertLess(nevers, 2500)

    def same_boxes(self, told, n, far):
        sharpened = sharp(told)
        for boxes in itertools.product(range(-far, far + 1), repeat=n):
            boxes = list(boxes)
            self.assertIs(told_has(sharpened, boxes), told_has(told, boxes), (told, boxes))

    def test_the_same_boxes_lie_in_it_of_one_box(self):
        ends = (None, -7, -3, 0, 2, 5)
        for lo, hi, left in itertools.product(ends, ends, RESTS + ((7, 4), (12, 11), (0, 9))):
            self.same_boxes(one_box(lo, hi, left), 1, 15)

    def test_the_same_boxes_lie_in_it_of_more_boxes(self):
        dice = Dice(14)
        for turn in range(250):
            self.same_boxes(some_told(dice, 2, (None, None, -3, 0, 1, 4), RESTS), 2, 7)
        for turn in range(60):
            self.same_boxes(some_told(dice, 3, (None, None, -1, 0, 2, 3), RESTS), 3, 4)

    def test_it_is_inside_what_it_was(self):
        dice = Dice(15)
        for turn in range(600):
            told = some_told(dice, 3, (None, -3, 0, 1, 4), RESTS)
            self.assertIs(told_inside(sharp(told), told), True, told)

    def test_what_is_told_can_be_handed_in_again(self):
        dice = Dice(16)
        for turn in range(300):
            told = sharp(some_told(dice, 3, (None, None, 0, 2, 4), RESTS))
            self.tells(told, by_steps(told))

    def test_what_is_told_is_the_askers_own(self):
        for told in (None, ([[0]], []), over(3, {}), one_box(3, 6, (5, 4)), one_box(3, 5, (7, 0)),
                     one_box(4, 4, (0, 4)), over(2, {(1, 0): 9, (2, 1): 0}, [(5, 2), ALL])):
            check_own(self, sharp, told)


class Grown(Case):
    def tells(self, old, new, marks, wanted):
        handed = (old, new, marks)
        for turned in (list(marks), list(reversed(marks)), marks[1:] + marks[:1], marks + marks):
            self.is_thing(grown(old, new, turned), wanted, handed)

    def bound(self, old, new, marks, wanted):
        for i, j in PAIRS:
            base = {pair: 3 for pair in PAIRS}
            self.tells(over(2, {**base, (i, j): old}), over(2, {**base, (i, j): new}), marks,
                       over(2, {**base, (i, j): wanted}))

    def rest(self, old, new, wanted):
        for i in range(3):
            rests = [[(6, 2)] * 3, [(6, 2)] * 3, [(6, 2)] * 3]
            for row, left in zip(rests, (old, new, wanted)):
                row[i] = left
            self.tells(over(3, {}, rests[0]), over(3, {}, rests[1]), [1, 2], over(3, {}, rests[2]))

    def test_never(self):
        some = over(2, {(1, 0): 5}, [(2, 1), ALL])
        for marks in ([], [0, 10]):
            self.tells(None, None, marks, None)
            self.tells(None, some, marks, some)
            self.tells(some, None, marks, some)

    def test_over_no_boxes(self):
        self.tells(NO_BOXES, NO_BOXES, [1], NO_BOXES)
        self.tells(None, NO_BOXES, [1], NO_BOXES)
        self.tells(NO_BOXES, None, [1], NO_BOXES)

    def test_bounds_that_grow_to_the_least_mark_that_is_not_below(self):
        self.bound(5, 6, [10, -3, 7, 20], 7)
        self.bound(5, 7, [10, -3, 7, 20], 7)
        self.bound(5, 8, [10, -3, 7, 20], 10)
        self.bound(5, 6, [6], 6)
        self.bound(5, 6, [5, 6, 7], 6)
        self.bound(-9, -8, [0, -5, -10], -5)
        self.bound(-9, -8, [-8, 0], -8)
        self.bound(-1, 0, [0], 0)

    def test_bounds_that_grow_beyond_all_marks(self):
        self.bound(5, 21, [10, -3, 7, 20], None)
        self.bound(5, 6, [5], None)
        self.bound(-5, -3, [-4], None)

    def test_no_marks(self):
        self.bound(5, 6, [], None)
        self.bound(5, 5, [], 5)
        self.bound(5, 4, [], 5)

    def test_bounds_that_stay(self):
        self.bound(5, 5, [10, 5, 7], 5)
        self.bound(5, 4, [10, 4, 7], 5)
        self.bound(6, -100, [10, 4, 7], 6)

    def test_no_bound(self):
        self.bound(None, 5, [10, 5], None)
        self.bound(None, None, [10, 5], None)
        self.bound(5, None, [10, 5], None)
        self.bound(5, None, [GREAT], None)

    def test_no_box_grows_from_itself(self):
        told = grown(over(3, {}), over(3, {}), [5])
        self.assertEqual([told[0][i][i] for i in range(4)], [0, 0, 0, 0])

    def test_rests_that_stay(self):
        self.rest((6, 2), (6, 2), (6, 2))
        self.rest((6, 2), (12, 8), (6, 2))
        self.rest((6, 2), (0, -4), (6, 2))
        self.rest((0, 5), (0, 5), (0, 5))
        self.rest(ALL, (6, 2), ALL)
        self.rest(ALL, ALL, ALL)

    def test_rests_that_become_all(self):
        self.rest((6, 2), (3, 2), ALL)
        self.rest((6, 2), (12, 3), ALL)
        self.rest((6, 2), (0, 3), ALL)
        self.rest((6, 2), ALL, ALL)
        self.rest((0, 5), (0, 6), ALL)
        self.rest((0, 5), (5, 0), ALL)

    def test_it_is_not_sharpened(self):
        self.tells(one_box(2, 7, (5, 2)), one_box(2, 12, (5, 2)), [14], one_box(2, 14, (5, 2)))
        loose = over(2, {(2, 1): 2, (1, 0): 5})
        self.tells(loose, loose, [], loose)
        self.tells(None, loose, [], loose)
        self.tells(loose, None, [], loose)

    def test_each_bound_and_each_rest_by_itself(self):
        old = ([[0, -1, -2], [4, 0, None], [5, 6, 0]], [(4, 2), (3, 1)])
        new = ([[0, 1, -2], [3, 0, 8], [9, None, 0]], [(2, 0), (6, 4)])
        self.tells(old, new, [2, 20, 11], ([[0, 2, -2], [4, 0, None], [11, None, 0]], [ALL, (3, 1)]))
        self.tells(new, old, [2, 20, 11], ([[0, 1, -2], [11, 0, None], [9, None, 0]], [(2, 0), ALL]))

    def test_both_are_inside(self):
        dice = Dice(17)
        for turn in range(600):
            old = some_told(dice, 3, (None, -4, 0, 3), RESTS)
            new = some_told(dice, 3, (None, -2, 1, 5), RESTS)
            told = grown(old, new, [dice.throw(20) - 10 for mark in range(dice.throw(4))])
            self.assertTrue(is_told(told))
            self.assertIs(told_inside(old, told), True)
            self.assertIs(told_inside(new, told), True)

    def test_many_figures(self):
        self.bound(GREAT, GREAT + 1, [GREAT, GREAT + 2], GREAT + 2)
        self.bound(-GREAT, -GREAT + 1, [-GREAT], None)

    def test_what_is_told_is_the_askers_own(self):
        some = over(2, {(1, 0): 5}, [(2, 1), ALL])
        more = over(2, {(1, 0): 6, (2, 0): 4}, [(4, 1), (2, 0)])
        for old, new in itertools.product((None, some, more), repeat=2):
            check_own(self, grown, copy.deepcopy(old), copy.deepcopy(new), [9, 7])
        check_own(self, lambda one: grown(one, one, []), copy.deepcopy(some))
        check_own(self, grown, ([[0]], []), ([[0]], []), [])
        check_own(self, grown, None, ([[0]], []), [])
        check_own(self, grown, ([[0]], []), None, [])


class OfStretches(Case):
    def tells(self, some, wanted):
        self.is_thing(of_stretches(some), wanted, some)

    def test_no_boxes(self):
        self.tells([], NO_BOXES)

    def test_both_ends(self):
        self.tells([(-3, 5)], ([[0, 3], [5, 0]], [ALL]))
        self.tells([(2, 5)], ([[0, -2], [5, 0]], [ALL]))
        self.tells([(-5, -2)], ([[0, 5], [-2, 0]], [ALL]))

    def test_one_end_and_none(self):
        self.tells([(2, None)], ([[0, -2], [None, 0]], [ALL]))
        self.tells([(None, 5)], ([[0, None], [5, 0]], [ALL]))
        self.tells([(None, None)], ([[0, None], [None, 0]], [ALL]))
        self.tells([(0, None)], ([[0, 0], [None, 0]], [ALL]))

    def test_it_is_sharpened(self):
        self.tells([(4, 4)], ([[0, -4], [4, 0]], [(0, 4)]))
        self.tells([(-3, 5), (10, 20)], ([[0, 3, -10], [5, 0, -5], [20, 23, 0]], [ALL, ALL]))
        self.tells([(-3, None), (None, 20)], ([[0, 3, None], [None, 0, None], [20, 23, 0]], [ALL, ALL]))
        self.tells([(4, 4), (7, 7)], ([[0, -4, -7], [4, 0, -3], [7, 3, 0]], [(0, 4), (0, 7)]))
        self.tells([(0, 0), (None, None), (2, 3)], (
            [[0, 0, None, -2], [0, 0, None, -2], [None, None, 0, None], [3, 3, None, 0]], [(0, 0), ALL, ALL]))

    def test_just_the_boxes_of_the_stretches_lie_in_it(self):
        ends = ((-2, 1), (0, 0), (None, 1), (-1, None), (None, None))
        for some in itertools.product(ends, repeat=2):
            told = of_stretches(list(some))
            for boxes in itertools.product(range(-4, 5), repeat=2):
                wanted = all((lo is None or lo <= held) and (hi is None or held <= hi)
                             for (lo, hi), held in zip(some, boxes))
                self.assertIs(told_has(told, list(boxes)), wanted, (some, boxes))

    def test_nine_boxes(self):
        told = of_stretches([(i, 2 * i) for i in range(1, 10)])
        for i, j in itertools.permutations(range(10), 2):
            self.assertEqual(told[0][i][j], 2 * i - j)
        self.assertEqual(told[1], [ALL] * 9)

    def test_many_figures(self):
        self.tells([(-GREAT, GREAT)], ([[0, GREAT], [GREAT, 0]], [ALL]))
        self.tells([(GREAT, GREAT)], ([[0, -GREAT], [GREAT, 0]], [(0, GREAT)]))

    def test_what_is_told_is_the_askers_own(self):
        check_own(self, of_stretches, [])
        check_own(self, of_stretches, [(-3, 5), (None, 20), (4, 4), (None, None)])


class StretchesOf(Case):
    def tells(self, told, wanted):
        found = stretches_of(told)
        self.assertIs(type(found), list, told)
        self.assertTrue(all(is_stretch(part) for part in found), told)
        self.assertEqual(found, wanted, told)

    def test_no_boxes(self):
        self.tells(NO_BOXES, [])

    def test_both_ends_one_and_none(self):
        self.tells(one_box(-3, 5, ALL), [(-3, 5)])
        self.tells(one_box(2, None, ALL), [(2, None)])
        self.tells(one_box(None, -5, ALL), [(None, -5)])
        self.tells(one_box(None, None, ALL), [(None, None)])
        self.tells(one_box(0, 0, ALL), [(0, 0)])

    def test_box_by_box(self):
        self.tells(([[0, -1, -2, None], [10, 0, 50, 51], [20, 52, 0, 53], [None, 54, 55, 0]], [ALL] * 3),
                   [(1, 10), (2, 20), (None, None)])

    def test_as_it_is_not_sharpened(self):
        self.tells(one_box(0, 9, (5, 2)), [(0, 9)])
        self.tells(one_box(None, None, (0, 3)), [(None, None)])
        self.tells(over(2, {(2, 1): 2, (1, 0): 5}), [(None, 5), (None, None)])

    def test_lo_above_hi(self):
        self.tells(one_box(5, 2, ALL), [(5, 2)])
        self.tells(one_box(1, 0, (3, 2)), [(1, 0)])

    def test_of_stretches_and_back(self):
        ends = [(-3, 5), (4, 4), (2, None), (None, 2), (None, None), (-GREAT, GREAT)]
        for some in itertools.product(ends, repeat=3):
            self.tells(of_stretches(list(some)), list(some))

    def test_what_is_told_is_the_askers_own(self):
        check_own(self, stretches_of, ([[0]], []))
        check_own(self, stretches_of, over(2, {(1, 0): 5, (0, 2): 3}))


if __name__ == "__main__":
    unittest.main()
