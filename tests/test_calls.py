import copy
import itertools
import unittest

import book
from kinds import check_own
from seer.acts import recast
from seer.calls import answered, argued, laid_in, widened
from seer.sums import value
from seer.tolds import of_stretches, sharp, told_has
from things import (
    ALL, GREAT, NO_BOXES, RESTS, Case, boxes_of, one_box, over, some_boxes, some_sum, some_things, some_told, told_about,
)


class Widened(Case):
    def tells(self, told, more, wanted):
        self.is_thing(widened(told, more), wanted, (told, more))

    def test_by_0(self):
        for told in (NO_BOXES, one_box(-3, 5, (2, 1)), over(3, {(1, 2): 4, (3, 1): -2}, [ALL, (2, 0), (0, 7)])):
            self.tells(told, 0, told)

    def test_by_1(self):
        self.tells(NO_BOXES, 1, over(1, {}))
        self.tells(one_box(-3, 5, (2, 1)), 1, over(2, {(1, 0): 5, (0, 1): 3}, [(2, 1), ALL]))

    def test_by_more(self):
        bounds = {pair: 10 * pair[0] + pair[1] for pair in itertools.permutations(range(4), 2)}
        rests = [(2, 1), (3, 1), (5, 1)]
        for more in range(7):
            self.tells(over(3, bounds, rests), more, over(3 + more, bounds, rests + [ALL] * more))
            self.tells(NO_BOXES, more, over(more, {}))

    def test_it_is_not_sharpened(self):
        told = over(2, {(1, 0): 5, (2, 1): 2, (0, 1): -9}, [(4, 1), (0, 7)])
        self.tells(told, 1, over(3, {(1, 0): 5, (2, 1): 2, (0, 1): -9}, [(4, 1), (0, 7), ALL]))

    def test_by_the_book(self):
        for dice, n, told in some_things(41, 300):
            more = dice.throw(5)
            self.is_thing(widened(told, more), book.widened(told, more), (told, more))

    def test_what_is_told_is_the_askers_own(self):
        for more in (0, 1, 3):
            check_own(self, widened, over(2, {(1, 2): 5}, [(2, 1), ALL]), more)
            check_own(self, widened, ([[0]], []), more)


class LaidIn(Case):
    def tells(self, told, at, other, wanted):
        self.is_thing(laid_in(told, at, other), wanted, (told, at, other))

    def test_nothing_is_laid_in(self):
        for told in (NO_BOXES, one_box(-3, 5, (2, 1)), over(2, {(1, 0): 5, (0, 1): -9})):
            self.tells(told, [], NO_BOXES, told)

    def test_one_box_at_each(self):
        one = one_box(-3, 5, (2, 1))
        for x in (1, 2, 3):
            rests = [ALL, ALL, ALL]
            rests[x - 1] = (2, 1)
            self.tells(over(3, {}), [x], one, over(3, {(x, 0): 5, (0, x): 3}, rests))

    def test_boxes_in_any_order(self):
        bounds = {pair: 10 * pair[0] + pair[1] for pair in itertools.permutations(range(4), 2)}
        rests = [(2, 1), (3, 1), (5, 1)]
        for at in itertools.permutations((1, 2, 3, 4), 3):
            where = (0,) + at
            wanted = over(4, {(where[i], where[j]): bound for (i, j), bound in bounds.items()})
            for i, left in enumerate(rests):
                wanted[1][at[i] - 1] = left
            self.tells(over(4, {}), list(at), over(3, bounds, rests), wanted)

    def test_bounds_are_lowered_where_the_other_is_less(self):
        pairs = list(itertools.permutations(range(3), 2))
        for here, there, left in ((4, 3, 3), (4, 4, 4), (4, 5, 4), (4, None, 4), (None, 4, 4), (None, None, None),
                                  (-4, -5, -5), (-4, -3, -4), (0, -1, -1), (0, None, 0), (None, 0, 0)):
            for i, j in pairs:
                told = over(3, {pair: 9 for pair in itertools.permutations(range(4), 2)})
                told[0][i][j] = here
                wanted = copy.deepcopy(told)
                wanted[0][i][j] = left
                self.tells(told, [1, 2], over(2, {(i, j): there}), wanted)

    def test_bounds_of_other_boxes_stay(self):
        told = over(4, {pair: 9 for pair in itertools.permutations(range(5), 2)})
        found = laid_in(told, [4, 2], over(2, {pair: -9 for pair in itertools.permutations(range(3), 2)}))
        for i, j in itertools.permutations(range(5), 2):
            self.assertEqual(found[0][i][j], -9 if {i, j} <= {0, 2, 4} else 9)
        self.assertEqual([found[0][i][i] for i in range(5)], [0] * 5)

    def test_rests_are_met(self):
        self.tells(over(2, {}, [ALL, (4, 1)]), [2], over(1, {}, [(6, 3)]), over(2, {}, [ALL, (12, 9)]))
        self.tells(over(2, {}, [(2, 0), (3, 0)]), [2, 1], over(2, {}, [(5, 1), (7, 1)]),
                   over(2, {}, [(14, 8), (15, 6)]))
        self.tells(over(1, {}, [(0, 7)]), [1], over(1, {}, [(3, 1)]), over(1, {}, [(0, 7)]))
        self.tells(over(1, {}, [(3, 1)]), [1], over(1, {}, [(0, 7)]), over(1, {}, [(0, 7)]))

    def test_never_where_two_rests_have_no_number_in_common(self):
        self.tells(over(2, {}, [ALL, (4, 1)]), [2], over(1, {}, [(2, 0)]), None)
        self.tells(over(1, {}, [(0, 7)]), [1], over(1, {}, [(0, 8)]), None)
        self.tells(over(1, {}, [(6, 2)]), [1], over(1, {}, [(9, 3)]), None)
        for x in (1, 2, 3):
            rests = [ALL, ALL, ALL]
            rests[x - 1] = (2, 1)
            self.tells(over(3, {}, [(2, 0), (2, 0), (2, 0)]), [1, 2, 3], over(3, {}, rests), None)

    def test_it_is_not_sharpened(self):
        self.tells(one_box(0, 3, ALL), [1], one_box(5, 9, ALL), one_box(5, 3, ALL))
        self.tells(one_box(0, 9, ALL), [1], over(1, {}, [(5, 2)]), one_box(0, 9, (5, 2)))
        self.tells(over(2, {(1, 0): 3}), [1, 2], over(2, {(2, 1): 4}), over(2, {(1, 0): 3, (2, 1): 4}))
        self.tells(one_box(0, 9, ALL), [1], over(1, {}, [(0, 20)]), one_box(0, 9, (0, 20)))

    def test_nine_boxes(self):
        told = over(9, {(i, i + 1): i for i in range(1, 9)})
        at = [9, 8, 7, 6, 5, 4, 3, 2, 1]
        other = over(9, {(i, i + 1): -i for i in range(1, 9)}, [(i, 0) for i in range(1, 10)])
        wanted = {(i, i + 1): i for i in range(1, 9)}
        wanted.update({(10 - i, 9 - i): -i for i in range(1, 9)})
        self.tells(told, at, other, over(9, wanted, [ALL if i == 1 else (i, 0) for i in range(9, 0, -1)]))

    def test_by_the_book(self):
        seen = set()
        for dice, n, told in some_things(42, 1500):
            at = sorted(range(1, n + 1), key=lambda x: dice.throw(100))[:dice.throw(n + 1)]
            other = some_told(dice, len(at), (None, -2, 0, 4, 8), RESTS) or over(len(at), {})
            found = laid_in(told, at, other)
            seen.add((len(at), found is None))
            self.is_thing(found, book.laid_in(told, at, other), (told, at, other))
        self.assertEqual(seen, {(0, False)} | set(itertools.product((1, 2, 3, 4), (True, False))))

    def test_boxes_lie_in_it_where_they_lie_in_both(self):
        seen = set()
        for dice, n, told in some_things(43, 300, (2,)):
            at = dice.choice(([1], [2], [1, 2], [2, 1]))
            other = told_about(dice, some_boxes(dice, len(at), 4))
            found = laid_in(told, at, other)
            for boxes in itertools.product(range(-6, 7), repeat=2):
                both = told_has(told, list(boxes)) and told_has(other, [boxes[x - 1] for x in at])
                self.assertIs(told_has(found, list(boxes)), both, (told, at, other, boxes))
                seen.add(both)
        self.assertEqual(seen, {True, False})

    def test_what_is_told_is_the_askers_own(self):
        told = over(3, {(1, 2): 5}, [(2, 1), ALL, ALL])
        check_own(self, laid_in, copy.deepcopy(told), [3, 1], over(2, {(1, 2): 4}, [(3, 1), ALL]))
        check_own(self, laid_in, copy.deepcopy(told), [1], over(1, {}, [(2, 0)]))
        check_own(self, laid_in, copy.deepcopy(told), [], ([[0]], []))


class Argued(Case):
    def tells(self, told, row, many, wanted):
        self.is_thing(argued(told, row, many), wanted, (told, row, many))

    def test_never(self):
        self.tells(None, [], 0, None)
        self.tells(None, [[0, 1]], 3, None)

    def test_never_by_the_sharpening(self):
        for told in (one_box(3, 1, ALL), one_box(0, 0, (2, 1)), one_box(1, 4, (5, 0))):
            self.tells(told, [], 2, None)
            self.tells(told, [[7, 0]], 2, None)
            self.tells(told, [[0, 1]], 1, None)

    def test_no_sums(self):
        for told in (NO_BOXES, one_box(3, 7, (2, 1)), over(3, {(1, 2): 4})):
            for many in range(1, 5):
                self.tells(told, [], many, of_stretches([(0, 0)] * many))

    def test_some_sums_and_other_boxes(self):
        told = one_box(3, 7, (2, 1))
        wanted = {(1, 0): 7, (0, 1): -3, (2, 0): 0, (0, 2): 0, (1, 2): 7, (2, 1): -3}
        self.tells(told, [[0, 1]], 1, told)
        self.tells(told, [[0, 1]], 2, over(2, wanted, [(2, 1), (0, 0)]))
        told = over(2, {(1, 2): 4, (2, 1): -4})
        wanted = {(1, 2): 5, (2, 1): -5, (3, 0): 0, (0, 3): 0, (4, 0): 0, (0, 4): 0, (3, 4): 0, (4, 3): 0}
        self.tells(told, [[1, 1, 0], [0, 0, 1]], 4, over(4, wanted, [ALL, ALL, (0, 0), (0, 0)]))

    def test_sums_as_many_as_boxes(self):
        told = over(2, {(1, 2): 4})
        self.tells(told, [[0, 0, 1], [0, 1, 0]], 2, over(2, {(2, 1): 4}))

    def test_sums_that_use_no_box(self):
        self.tells(over(2, {}), [[7, 0, 0]], 2, of_stretches([(7, 7), (0, 0)]))
        self.tells(NO_BOXES, [[7], [-2]], 3, of_stretches([(7, 7), (-2, -2), (0, 0)]))

    def test_it_is_sharpened_first(self):
        told = over(2, {(1, 0): 5, (2, 1): 2})
        self.tells(told, [[0, 0, 2]], 1, one_box(None, 14, (2, 0)))
        self.assertEqual(recast(told, [[0, 0, 2]]), over(1, {}, [(2, 0)]))

    def test_many_figures(self):
        self.tells(one_box(0, GREAT, ALL), [[GREAT, GREAT]], 1, one_box(GREAT, GREAT + GREAT * GREAT, (GREAT, 0)))

    def test_by_the_book(self):
        seen = set()
        for dice, n, told in some_things(44, 1200):
            row = [some_sum(dice, n) for k in range(dice.throw(4))]
            many = len(row) + dice.throw(3)
            found = argued(told, row, many)
            seen.add((len(row), found is None))
            self.is_thing(found, book.argued(told, row, many), (told, row, many))
        self.assertEqual(seen, set(itertools.product(range(4), (True, False))))

    def test_arguments_with_noughts_behind_lie_in_it(self):
        many = 0
        for dice, n, told in some_things(45, 400, (1, 2)):
            row = [some_sum(dice, n) for k in range(dice.throw(4))]
            found = argued(told, row, len(row) + 1)
            for boxes in boxes_of(told, n, 6):
                many += 1
                self.assertIs(told_has(found, [value(one, boxes) for one in row] + [0]), True, (told, row, boxes))
        self.assertGreater(many, 2000)

    def test_what_is_told_is_the_askers_own(self):
        told = over(2, {(1, 2): 5}, [(2, 1), ALL])
        for row, many in (([], 0), ([], 2), ([[0, 1, 0]], 1), ([[0, 1, 1], [3, 0, 0]], 4)):
            check_own(self, argued, copy.deepcopy(told), copy.deepcopy(row), many)
        check_own(self, argued, None, [[0, 1]], 2)


# The answer is 1 more than the parameter.
NEXT = over(2, {(2, 1): 1, (1, 2): -1})


class Answered(Case):
    def tells(self, told, x, row, summary, wanted):
        self.is_thing(answered(told, x, row, summary), wanted, (told, x, row, summary))

    def test_a_summary_that_ties_the_answer_to_a_parameter(self):
        told = over(2, {(1, 0): 9, (0, 1): 0})
        wanted = {(1, 0): 9, (0, 1): 0, (2, 0): 10, (0, 2): -1, (2, 1): 1, (1, 2): -1}
        self.tells(told, 2, [[0, 1, 0]], NEXT, over(2, wanted))
        wanted = {(1, 0): 9, (0, 1): 0, (2, 0): 6, (0, 2): 3, (2, 1): -3, (1, 2): 3}
        self.tells(told, 2, [[-4, 1, 0]], NEXT, over(2, wanted))

    def test_the_box_that_takes_the_answer_among_those_of_the_arguments(self):
        self.tells(one_box(0, 9, (3, 1)), 1, [[0, 1]], NEXT, one_box(2, 8, (3, 2)))
        told = over(2, {(1, 2): 0, (2, 1): 0, (1, 0): 9, (0, 1): 0})
        wanted = {(1, 2): 1, (2, 1): -1, (1, 0): 10, (0, 1): -1, (2, 0): 9, (0, 2): 0}
        self.tells(told, 1, [[0, 1, 0]], NEXT, over(2, wanted))
        self.tells(told, 1, [[0, 0, 1]], NEXT, over(2, wanted))
        wanted = {(2, 1): 1, (1, 2): -1, (2, 0): 10, (0, 2): -1, (1, 0): 9, (0, 1): 0}
        self.tells(told, 2, [[0, 0, 1]], NEXT, over(2, wanted))

    def test_the_answer_by_two_parameters(self):
        # The answer lies between the parameters.
        between = over(3, {(1, 3): 0, (3, 2): 0})
        told = over(3, {(1, 0): 3, (0, 1): 0, (2, 0): 9, (0, 2): -5})
        found = answered(told, 3, [[0, 1, 0, 0], [0, 0, 1, 0]], between)
        wanted = {(1, 0): 3, (0, 1): 0, (2, 0): 9, (0, 2): -5, (1, 3): 0, (3, 2): 0, (3, 0): 9, (0, 3): 0,
                  (1, 2): -2, (2, 1): 9, (2, 3): 9, (3, 1): 9}
        self.assertEqual(found, over(3, wanted))
        # The other way round the first one is not above the second one, which can't be.
        self.tells(told, 3, [[0, 0, 1, 0], [0, 1, 0, 0]], between, None)

    def test_a_row_of_no_sums(self):
        told = over(2, {(1, 2): 4, (2, 1): 0, (1, 0): 9})
        self.tells(told, 2, [], one_box(3, 5, (2, 1)), over(2, {
            (1, 0): 9, (2, 0): 5, (0, 2): -3, (1, 2): 6}, [ALL, (2, 1)]))
        self.tells(told, 1, [], over(1, {}), over(2, {(2, 0): 9}))
        self.tells(one_box(1, 2, ALL), 1, [], one_box(8, 8, (0, 8)), one_box(8, 8, (0, 8)))

    def test_each_box_takes_it(self):
        told = over(3, {(1, 0): 1, (2, 0): 2, (3, 0): 3}, [(2, 0), (3, 0), (5, 0)])
        for x in (1, 2, 3):
            wanted = copy.deepcopy(sharp(told))
            wanted[0][x][0] = None
            wanted[1][x - 1] = (7, 4)
            self.tells(told, x, [[0, 0, 1, 0]], over(2, {}, [ALL, (7, 4)]), wanted)

    def test_what_the_summary_tells_of_the_parameters(self):
        # The function comes to its end for parameters from 2 to 4 alone.
        summary = over(2, {(1, 0): 4, (0, 1): -2})
        self.tells(over(2, {(1, 0): 9}), 2, [[0, 1, 0]], summary, over(2, {(1, 0): 4, (0, 1): -2}))
        self.tells(over(2, {}), 2, [[0, 1, 0]], over(2, {}, [(3, 1), ALL]), over(2, {}, [(3, 1), ALL]))
        told = one_box(0, 9, ALL)
        self.tells(told, 1, [[0, 1]], over(2, {(1, 2): 0, (2, 1): 0, (1, 0): 4}), one_box(0, 4, ALL))

    def test_rests_of_the_answer_by_those_of_the_arguments(self):
        told = over(2, {}, [(6, 1), ALL])
        same = over(2, {(1, 2): 0, (2, 1): 0}, [(4, 3), ALL])
        found = answered(told, 2, [[0, 1, 0]], same)
        self.assertEqual(found[1], [(12, 7), (12, 7)])

    def test_it_is_sharpened_first(self):
        told = over(2, {(1, 0): 5, (2, 1): 2})
        self.assertEqual(answered(told, 1, [[0, 0, 2]], over(2, {(1, 2): 0, (2, 1): 0})), over(2, {
            (1, 0): 14, (2, 0): 7, (1, 2): 7}, [(2, 0), ALL]))

    def test_never_by_the_told_thing(self):
        self.tells(None, 1, [], over(1, {}), None)
        self.tells(None, 1, [[0, 1]], NEXT, None)
        self.tells(None, 1, [], None, None)

    def test_never_by_its_sharpening(self):
        for told in (one_box(3, 1, ALL), one_box(0, 0, (2, 1)), one_box(1, 4, (5, 0))):
            self.tells(told, 1, [], over(1, {}), None)
            self.tells(told, 1, [[3, 0]], NEXT, None)

    def test_never_by_the_summary(self):
        self.tells(one_box(0, 9, ALL), 1, [], None, None)
        self.tells(one_box(0, 9, ALL), 1, [[0, 1]], None, None)
        self.tells(one_box(3, 1, ALL), 1, [[0, 1]], None, None)

    def test_never_by_the_first_recasting(self):
        # Sharpened twice it is never, once it is not.
        told = over(2, {(0, 2): 4, (1, 2): 3, (2, 0): -2, (2, 1): -2}, [(3, 1), (2, 1)])
        self.assertIsNotNone(sharp(told))
        self.assertIsNone(sharp(sharp(told)))
        self.tells(told, 1, [[-1, 1, 0], [0, 2, -1]], over(3, {}), None)
        self.tells(told, 2, [], over(1, {}), None)

    def test_never_by_rests_that_have_no_number_in_common(self):
        self.tells(over(1, {}, [(2, 0)]), 1, [[0, 1]], over(2, {}, [(2, 1), ALL]), None)
        self.tells(over(1, {}), 1, [[6, 2]], over(2, {}, [(4, 1), ALL]), None)
        self.tells(over(1, {}), 1, [[6, 0]], over(2, {}, [(0, 5), ALL]), None)

    def test_never_by_the_sharpening_behind_it(self):
        self.tells(one_box(0, 3, ALL), 1, [[0, 1]], over(2, {(0, 1): -5}), None)
        self.tells(one_box(0, None, ALL), 1, [[7, 1]], over(2, {(1, 0): 0}), None)
        self.tells(over(2, {(1, 2): -3}), 1, [[0, 1, 0], [0, 0, 1]], over(3, {(2, 1): 0}), None)

    def test_never_by_the_last_recasting(self):
        # The parameter is a multiple of 9; that it and the answer can't both be is seen step by step.
        summary = over(2, {(0, 1): -2, (0, 2): 2, (1, 2): 4, (2, 0): 9, (2, 1): -2}, [ALL, (4, 0)])
        told = over(1, {}, [(3, 1)])
        both = sharp(laid_in(widened(recast(told, [[0, 1], [-3, 3]]), 1), [2, 3], summary))
        self.assertIsNotNone(both)
        self.tells(told, 1, [[-3, 3]], summary, None)

    def test_four_boxes_and_four_arguments(self):
        told = over(4, {(i, 0): i for i in range(1, 5)})
        row = [book.box(i, 4) for i in range(1, 5)]
        summary = over(5, {(5, i): -1 for i in range(1, 5)})
        found = answered(told, 4, row, summary)
        self.assertEqual(found, over(4, {(1, 0): 1, (2, 0): 2, (3, 0): 3, (4, 0): 0, (4, 1): -1, (4, 2): -1,
                                         (4, 3): -1}))

    def test_many_figures(self):
        self.tells(one_box(0, GREAT, ALL), 1, [[GREAT, 1]], NEXT, one_box(GREAT + 1, 2 * GREAT + 1, ALL))

    def test_by_the_book(self):
        seen = set()
        for dice, n, told in some_things(46, 1500):
            row = [some_sum(dice, n) for k in range(dice.throw(4))]
            summary = told_about(dice, some_boxes(dice, len(row) + 1, 6)) if dice.throw(12) else None
            x = 1 + dice.throw(n)
            found = answered(told, x, row, summary)
            seen.add((len(row), found is None))
            self.is_thing(found, book.answered(told, x, row, summary), (told, x, row, summary))
        self.assertEqual(seen, set(itertools.product(range(4), (True, False))))

    def test_boxes_with_an_answer_of_the_summary_lie_in_it(self):
        many = 0
        for dice, n, told in some_things(47, 250, (1, 2)):
            row = [some_sum(dice, n) for k in range(dice.throw(3))]
            here = boxes_of(told, n, 5)
            held = dice.choice(here) if here else [0] * n
            summary = told_about(dice, [value(one, held) for one in row] + some_boxes(dice, 1, 5))
            x = 1 + dice.throw(n)
            found = answered(told, x, row, summary)
            for boxes, answer in itertools.product(here, range(-7, 8)):
                if told_has(summary, [value(one, boxes) for one in row] + [answer]):
                    many += 1
                    new = boxes[:x - 1] + [answer] + boxes[x:]
                    self.assertIs(told_has(found, new), True, (told, x, row, summary, boxes, answer))
        self.assertGreater(many, 2000)

    def test_what_is_told_is_the_askers_own(self):
        told = over(2, {(1, 2): 5}, [(2, 1), ALL])
        check_own(self, answered, copy.deepcopy(told), 1, [[0, 1, 1]], copy.deepcopy(NEXT))
        check_own(self, answered, copy.deepcopy(told), 2, [], over(1, {}))
        check_own(self, answered, copy.deepcopy(told), 2, [], None)
        check_own(self, answered, None, 2, [], over(1, {}))


if __name__ == "__main__":
    unittest.main()
