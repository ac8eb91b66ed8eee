import copy
import itertools
import unittest

import book_looks as book
from kinds import check_own, is_told
from makers import Ringer
from seer.calls import argued
from seer.errors import FixedBox, NoBox, NoCall, NoShape, NoStart, NoStep, NoStretch, NoSum, NoWay
from seer.looks import look
from seer.rows import rows_of
from seer.tolds import of_stretches, stretches_of, told_joined
from things import ALL, GREAT, Case, one_box, over

WAY = (4, [0, 20], 1)
ALWAYS = ("same", [0, 0])
NOUGHT = one_box(0, 0, (0, 0))
TWICE = (1, 2, [("set", 2, [0, 2, 0])])
MORE = (1, 2, [("set", 2, [1, 1, 0])])
LOST = (0, 1, [("while", ALWAYS, [])])


class LookCase(Case):
    def look(self, program, starts, way):
        told = look(program, starts, way)
        self.check_kinds(program, told)
        self.assertEqual(told, book.look(program, starts, way), (program, starts, way))
        return told

    def check_kinds(self, program, told):
        self.assertIs(type(told), tuple)
        wide, summaries, held, grew = told
        self.assertIs(type(grew), bool)
        for tables, functions in ((wide, program[:-1]), (held, program)):
            self.assertIs(type(tables), list)
            self.assertEqual(len(tables), len(functions))
            for table, function in zip(tables, functions):
                self.check_table(table, function)
        self.assertIs(type(summaries), list)
        self.assertEqual(len(summaries), len(program) - 1)
        for summary, function in zip(summaries, program):
            self.check_told(summary, function[0] + 1)

    def check_table(self, table, function):
        self.assertIs(type(table), list)
        self.assertEqual(len(table), max([0] + [row[2] for row in rows_of(function[2])]) + 1)
        for told in table:
            self.check_told(told, function[1])

    def check_told(self, told, n):
        self.assertTrue(is_told(told), told)
        self.assertTrue(told is None or len(told[1]) == n, told)


class Look(LookCase):
    def test_one_function_without_statements(self):
        self.assertEqual(self.look([(0, 1, [])], [], WAY), ([], [], [[NOUGHT]], False))
        self.assertEqual(self.look([(1, 1, [])], [(2, 5)], WAY), ([], [], [[one_box(2, 5, ALL)]], False))

    def test_parameters_begin_with_the_starts_and_other_boxes_with_0(self):
        for starts in ([], [(2, 5)], [(2, 5), (None, None)], [(None, 3), (4, None), (-1, -1)]):
            for more in (0, 1, 2):
                if starts or more:
                    wanted = of_stretches(starts + [(0, 0)] * more)
                    told = self.look([(len(starts), len(starts) + more, [])], starts, WAY)
                    self.assertEqual(told, ([], [], [[wanted]], False))

    def test_one_function_is_settled_by_the_way(self):
        body = [("while", ("under", [-3, 1]), [("set", 1, [1, 1])])]
        for way, hi, grew in (((3, [], 0), 3, False), ((2, [], 0), None, True), ((2, [9], 0), 9, True),
                              ((0, [], 1), 3, True), ((0, [], 0), None, True)):
            told = self.look([(1, 1, body)], [(0, 0)], way)
            self.assertEqual([stretches_of(one)[0] for one in told[2][0]], [(0, 0), (0, hi), (0, 2), (1, 3), (3, hi)])
            self.assertIs(told[3], grew)

    def test_wide_begins_with_any_arguments(self):
        main = (1, 1, [("call", 1, 0, [[0, 1]])])
        wide, summaries, held, grew = self.look([TWICE, main], [(3, 5)], WAY)
        self.assertEqual(wide, [[of_stretches([(None, None), (0, 0)]), over(2, {}, [ALL, (2, 0)])]])
        self.assertEqual(summaries, [over(2, {}, [ALL, (2, 0)])])
        self.assertEqual(held[0][0], of_stretches([(3, 5), (0, 0)]))
        self.assertEqual(stretches_of(held[0][1]), [(3, 5), (6, 10)])
        self.assertEqual(held[1], [one_box(3, 5, ALL), one_box(None, None, (2, 0))])

    def test_a_summary_is_over_the_parameters_and_the_last_box(self):
        plus = (2, 4, [("any", 3, 5, 9), ("set", 4, [1, 0, 1, 0, 0])])
        told = self.look([plus, (0, 1, [])], [], WAY)
        self.assertEqual(told[1], [over(3, {(3, 2): 1, (2, 3): -1})])

    def test_a_summary_without_parameters(self):
        told = self.look([(0, 2, [("any", 2, 3, 7)]), (0, 1, [("call", 1, 0, [])])], [], WAY)
        self.assertEqual(told[1], [one_box(3, 7, ALL)])
        self.assertEqual(told[2][1], [NOUGHT, one_box(3, 7, ALL)])

    def test_a_summary_of_a_function_that_has_parameters_alone(self):
        told = self.look([(2, 2, []), (2, 2, [("call", 1, 0, [[0, 1, 0], [0, 0, 1]])])], [(0, 4), (7, 9)], WAY)
        self.assertEqual(told[1], [over(3, {(2, 3): 0, (3, 2): 0})])
        self.assertEqual(told[2][1][1], over(2, {(1, 0): 9, (0, 1): -7, (2, 0): 9, (0, 2): -7, (1, 2): 0, (2, 1): 0}))

    def test_a_summary_is_sharpened_ahead(self):
        # Left are numbers of box 1 that are 2 by 3, of box 2 that are 2 by 4. Behind the last ring box 1 is at most 2
        # and box 2, at most 7 more, so at most 6; box 3 is less than box 2, but at the last place 8 is still told of it.
        lost = [("while", ("same", [0, 0, 0, 0]), [])]
        body = [("if", ("even", [1, 1, 0, 0], 3), [], lost), ("any", 2, None, None), ("set", 2, [2, 0, 4, 0]),
                ("any", 3, None, None), ("while", ("under", [7, 1, -1, 0]), []), ("while", ("under", [-1, 0, 1, -1]), []),
                ("while", ("under", [6, 1, 0, -1]), []), ("while", ("under", [4, -1, 0, 0]), [])]
        told = self.look([(1, 3, body), (0, 1, [])], [], WAY)
        self.assertEqual(stretches_of(told[0][0][-1]), [(None, 2), (None, 9), (None, 8)])
        self.assertEqual(told[1], [over(2, {(1, 0): 2, (2, 0): 5, (2, 1): 6}, [(3, 2), ALL])])

    def test_a_function_that_never_ends(self):
        main = (0, 1, [("call", 1, 0, []), ("set", 1, [1, 1])])
        wide, summaries, held, grew = self.look([LOST, main], [], WAY)
        self.assertEqual(summaries, [None])
        self.assertEqual(wide, [[NOUGHT, NOUGHT, NOUGHT, None]])
        self.assertEqual(held, [[NOUGHT, NOUGHT, NOUGHT, None], [NOUGHT, None, None]])

    def test_a_function_that_calls_another_by_its_summary(self):
        again = (1, 2, [("call", 2, 0, [[0, 1, 0]]), ("call", 2, 0, [[0, 0, 1]])])
        main = (1, 1, [("call", 1, 1, [[10, 1]])])
        wide, summaries, held, grew = self.look([MORE, again, main], [(0, 5)], WAY)
        self.assertEqual(summaries, [over(2, {(2, 1): 1, (1, 2): -1}), over(2, {(2, 1): 2, (1, 2): -2})])
        self.assertEqual(held[2], [one_box(0, 5, ALL), one_box(12, 17, ALL)])
        self.assertEqual(held[1][0], of_stretches([(10, 15), (0, 0)]))
        # One call hands on 10 to 15, the other 11 to 16.
        self.assertEqual(held[0][0], of_stretches([(10, 16), (0, 0)]))

    def test_held_begins_with_the_joined_arguments_of_all_calls(self):
        main = (1, 2, [("call", 2, 0, [[0, 1, 0]]), ("call", 2, 0, [[100, 0, 0]]), ("call", 2, 0, [[0, 2, 0]])])
        told = self.look([MORE, main], [(20, 30)], WAY)
        self.assertEqual(told[2][0][0], of_stretches([(20, 100), (0, 0)]))
        first = [argued(of_stretches([span]), [[0, 1]], 2) for span in ((20, 30), (100, 100))]
        self.assertEqual(told[2][0][0], told_joined(*first))

    def test_held_begins_with_the_arguments_of_calls_in_functions_between(self):
        between = (1, 2, [("call", 2, 0, [[50, 1, 0]])])
        for calls, span in (([("call", 1, 1, [[0, 1]])], (51, 53)),
                            ([("call", 1, 1, [[0, 1]]), ("call", 1, 0, [[-4, 0]])], (-4, 53)),
                            ([("call", 1, 0, [[0, 1]])], (1, 3))):
            told = self.look([MORE, between, (1, 1, calls)], [(1, 3)], WAY)
            self.assertEqual(told[2][0][0], of_stretches([span, (0, 0)]))

    def test_held_is_never_where_there_is_no_call(self):
        told = self.look([MORE, TWICE, (0, 1, [("call", 1, 1, [[7, 0]])])], [], WAY)
        self.assertEqual(told[2][0], [None, None])
        self.assertIsNotNone(told[0][0][0])
        self.assertEqual(told[2][1][0], of_stretches([(7, 7), (0, 0)]))

    def test_held_is_never_where_no_call_is_reached(self):
        calls = [("if", ("same", [1, 0]), [("call", 1, 0, [[7, 0]])], [])]
        told = self.look([MORE, (0, 1, calls)], [], WAY)
        self.assertEqual(told[2][0], [None, None])
        # A call in a function that is itself not called.
        between = (0, 1, [("call", 1, 0, [[7, 0]])])
        told = self.look([MORE, between, (0, 1, [])], [], WAY)
        self.assertEqual(told[2][:2], [[None, None], [None, None]])
        self.assertEqual(told[0][1], [NOUGHT, one_box(8, 8, (0, 8))])

    def test_a_call_that_is_not_reached_hands_on_nothing(self):
        calls = [("call", 1, 0, [[3, 0]]), ("if", ("same", [0, 1]), [("call", 1, 0, [[7, 0]])], [])]
        told = self.look([MORE, (0, 1, calls)], [], WAY)
        self.assertEqual(told[2][0][0], of_stretches([(3, 3), (0, 0)]))

    def test_held_is_by_the_place_of_the_call_not_behind_it(self):
        told = self.look([MORE, (1, 1, [("call", 1, 0, [[0, 1]])])], [(3, 4)], WAY)
        self.assertEqual(told[2][0][0], of_stretches([(3, 4), (0, 0)]))
        self.assertEqual(told[2][1][1], one_box(4, 5, ALL))

    def test_held_is_by_the_summaries_not_by_held(self):
        # Held tells 6 to 10 at the called one's end, but its summary tells only that the answer is even.
        told = self.look([TWICE, (1, 1, [("call", 1, 0, [[0, 1]])])], [(3, 5)], WAY)
        self.assertEqual(stretches_of(told[2][1][1]), [(None, None)])

    def test_grew(self):
        # Counting from 0 to a parameter grows wide for any argument, but not for a small one.
        count = (1, 2, [("while", ("under", [0, -1, 1]), [("set", 2, [1, 0, 1])])])
        call = [("call", 1, 0, [[2, 0]])]
        self.assertIs(self.look([count, (0, 1, call)], [], (9, [], 0))[3], True)
        self.assertIs(self.look([count, (0, 1, [])], [], (9, [], 0))[3], True)
        # Held alone grows wide.
        two = (1, 1, [("while", ("under", [-2, 1]), [("set", 1, [1, 1])])])
        self.assertIs(self.look([MORE, two], [(0, 0)], (1, [], 0))[3], True)
        self.assertIs(self.look([MORE, two], [(0, 0)], (2, [], 0))[3], False)
        # A first one of several, and none.
        self.assertIs(self.look([count, MORE, TWICE, (0, 1, [])], [], (9, [], 0))[3], True)
        self.assertIs(self.look([MORE, TWICE, (0, 1, [])], [], (0, [], 0))[3], False)

    def test_grew_by_held_of_a_called_function_alone(self):
        # For any argument nothing is told of the head's box that could grow, for 0 there is.
        body = [("any", 2, None, None), ("if", ("same", [0, 1, 0]), [("set", 2, [0, 0, 0])], []),
                ("while", ("under", [-9, 0, 1]), [("set", 2, [1, 0, 1])])]
        main = [("call", 1, 0, [[0, 0]])]
        self.assertIs(self.look([(1, 2, body), (0, 1, main)], [], (1, [], 0))[3], True)
        self.assertIs(self.look([(1, 2, body), (0, 1, [])], [], (1, [], 0))[3], False)

    def test_many_figures(self):
        main = (1, 1, [("call", 1, 0, [[10 ** 100, 10 ** 9]])])
        told = self.look([MORE, main], [(-GREAT, GREAT)], (1, [GREAT, -GREAT], 1))
        self.assertEqual(stretches_of(told[2][1][1]),
                         [(10 ** 100 - GREAT * 10 ** 9 + 1, 10 ** 100 + GREAT * 10 ** 9 + 1)])

    def test_five_functions_of_four_boxes(self):
        steps = [(2, 4, [("call", 4, f - 1, [[1, 1, 0, 0, 0], [0, 0, 1, 0, 0]])] if f else
                  [("set", 4, [0, 1, -1, 0, 0])]) for f in range(4)]
        main = (4, 4, [("call", 1, 3, [[0, 0, 0, 1, 0], [0, 0, 0, 0, 1]])])
        told = self.look(steps + [main], [(0, 0), (0, 0), (5, 6), (1, 2)], WAY)
        self.assertEqual([stretches_of(table[0])[:2] for table in told[2][:4]],
                         [[(8, 9), (1, 2)], [(7, 8), (1, 2)], [(6, 7), (1, 2)], [(5, 6), (1, 2)]])


class Refused(unittest.TestCase):
    def refuses(self, error, program, starts, way):
        with self.assertRaises(error) as caught:
            look(program, starts, way)
        self.assertIs(type(caught.exception), error)

    def test_programs_that_are_not_well_made(self):
        for error, program in (
                (NoShape, []), (NoShape, [(0, 0, [])]), (NoShape, [(2, 1, [])]), (NoShape, [(-1, 1, [])]),
                (NoBox, [(0, 1, [("set", 2, [0, 0])])]), (FixedBox, [(1, 1, [("set", 1, [0, 0])]), (0, 1, [])]),
                (NoSum, [(0, 1, [("say", ("same", [0]))])]), (NoStep, [(0, 1, [("part", 1, [0, 0], 0)])]),
                (NoStretch, [(0, 1, [("any", 1, 2, 1)])]), (NoCall, [(0, 1, [("call", 1, 0, [])])]),
                (NoCall, [(0, 1, []), (0, 1, [("call", 1, 0, [[0, 0]])])])):
            self.refuses(error, program, [], WAY)

    def test_starts_that_are_not_as_many_as_the_parameters(self):
        for params, many in itertools.product(range(4), range(4)):
            if params != many:
                self.refuses(NoStart, [(params, 4, [])], [(0, 1)] * many, WAY)
            else:
                look([(params, 4, [])], [(0, 1)] * many, WAY)
        # Those of the main one count, not those of others.
        self.refuses(NoStart, [(2, 2, []), (1, 1, [])], [(0, 1)] * 2, WAY)

    def test_starts_that_are_no_stretches(self):
        self.refuses(NoStretch, [(1, 1, [])], [(1, 0)], WAY)
        self.refuses(NoStretch, [(3, 3, [])], [(None, 3), (0, 0), (-1, -2)], WAY)
        self.refuses(NoStretch, [(3, 3, [])], [(None, 3), (10 ** 300, 10 ** 299), (0, None)], WAY)

    def test_ways_that_are_none(self):
        for way in ((-1, [], 0), (0, [], -1), (-1, [], -1), (-10 ** 299, [5], 3), (3, [5], -7)):
            self.refuses(NoWay, [(1, 1, [])], [(0, 0)], way)
        for way in ((0, [], 0), (0, [-1], 0), (1, [-GREAT], 1)):
            look([(1, 1, [])], [(0, 0)], way)

    def test_the_order(self):
        bad = [(1, 1, [("set", 2, [0, 0])])]
        good = [(2, 2, [])]
        self.refuses(NoBox, bad, [], (-1, [], -1))
        self.refuses(NoBox, bad, [(1, 0)], WAY)
        self.refuses(NoBox, bad, [(0, 1)], (-1, [], 0))
        self.refuses(NoStart, good, [(1, 0)], (-1, [], 0))
        self.refuses(NoStart, good, [(1, 0)] * 3, WAY)
        self.refuses(NoStart, good, [], (0, [], -1))
        self.refuses(NoStretch, good, [(0, 0), (1, 0)], (-1, [], -1))
        self.refuses(NoWay, good, [(0, 0), (0, 1)], (0, [], -1))

    def test_the_starts_are_looked_at_where_nothing_else_is(self):
        self.refuses(NoStretch, [(1, 1, [("while", ALWAYS, [])])], [(5, 4)], (0, [], 0))


class ByManyPrograms(LookCase):
    def each(self, seeds):
        for seed in seeds:
            maker = Ringer(seed)
            program = maker.program()
            spans = [(-3, 8), (0, 0), (0, None), (None, 5), (None, None)]
            starts = [maker.dice.choice(spans) for box in range(program[-1][0])]
            marks = [maker.dice.throw(41) - 20 for k in range(maker.dice.throw(5))]
            yield program, starts, (maker.dice.throw(4), marks, maker.dice.throw(4))

    def test_by_the_book(self):
        seen = set()
        for program, starts, way in self.each(range(500, 570)):
            told = self.look(program, starts, way)
            seen.add((len(program), told[3]))
        self.assertEqual(seen, set(itertools.product(range(1, 6), (True, False))))

    def test_what_is_told_is_the_askers_own(self):
        for program, starts, way in self.each(range(600, 625)):
            check_own(self, look, program, starts, copy.deepcopy(way))

    def test_told_again_it_is_the_same(self):
        asked = list(self.each(range(630, 640)))
        first = [look(*one) for one in asked]
        self.assertEqual([look(*one) for one in reversed(asked)], first[::-1])


if __name__ == "__main__":
    unittest.main()
