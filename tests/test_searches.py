import copy
import itertools
import unittest

import book_looks as book
from kinds import check_own, is_whole
from makers import Ringer
from seer.errors import NoBox, NoShape, NoStart, NoStretch, NoWay
from seer.looks import look
from seer.searches import breaker, breaks, tell, tried
from seer.tellers import sayings, trail, words
from things import GREAT

WAY = (4, [0, 20], 1)
ALWAYS = ("same", [0, 0])
MORE = (1, 2, [("set", 2, [1, 1, 0]), ("say", ("under", [-9, 1, 0]))])


def say(claim):
    return ("say", claim)


def below(top):
    return ("under", [-top, 1])


class Tried(unittest.TestCase):
    def tells(self, one, marks, wanted):
        told = tried(one, marks)
        self.assertEqual(told, wanted, (one, marks))
        self.assertIs(type(told), list)
        self.assertTrue(all(is_whole(number) for number in told))
        self.assertEqual(book.tried(one, marks), wanted)

    def test_both_ends(self):
        self.tells((-3, 5), [], [-3, 0, 5])
        self.tells((2, 5), [], [2, 5])
        self.tells((-5, -2), [], [-5, -2])
        self.tells((0, 5), [], [0, 5])
        self.tells((-5, 0), [], [-5, 0])
        self.tells((0, 0), [], [0])
        self.tells((7, 7), [], [7])

    def test_one_end(self):
        self.tells((3, None), [], [3])
        self.tells((-3, None), [], [-3, 0])
        self.tells((None, 3), [], [0, 3])
        self.tells((None, -3), [], [-3])
        self.tells((0, None), [], [0])

    def test_no_end(self):
        self.tells((None, None), [], [0])
        self.tells((None, None), [4, -4], [-4, 0, 4])

    def test_marks_inside_and_outside(self):
        self.tells((2, 9), [1, 2, 5, 9, 10, -4], [2, 5, 9])
        self.tells((-3, None), [-4, -3, 100], [-3, 0, 100])
        self.tells((None, 3), [4, 3, -100], [-100, 0, 3])
        self.tells((7, 7), [6, 8], [7])

    def test_marks_twice_and_in_any_order(self):
        self.tells((-9, 9), [5, 3, 5, -9, 9, 0, 3, 4], [-9, 0, 3, 4, 5, 9])

    def test_many_figures(self):
        self.tells((-GREAT, GREAT), [GREAT, -GREAT, GREAT + 1], [-GREAT, 0, GREAT])

    def test_by_the_book(self):
        ends = (None, -4, -1, 0, 2, 5)
        for lo, hi in itertools.product(ends, ends):
            if lo is None or hi is None or lo <= hi:
                for marks in itertools.product((-5, -1, 0, 2, 3), repeat=3):
                    self.tells((lo, hi), list(marks), book.tried((lo, hi), marks))

    def test_what_is_told_is_the_askers_own(self):
        check_own(self, tried, (-3, 9), [5, 4])


class Breaks(unittest.TestCase):
    def tells(self, program, start, picks, steps, function, place, wanted):
        told = breaks(program, start, picks, steps, function, place)
        self.assertIs(told, wanted, (program, start, picks, steps, function, place))

    def test_starts_that_break_and_that_do_not(self):
        program = [(1, 1, [say(below(5))])]
        for start, wanted in ((4, False), (5, True), (6, True), (-GREAT, False), (GREAT, True)):
            self.tells(program, [start], [], 300, 0, 0, wanted)
        for start in range(-9, 10):
            self.tells([(1, 1, [say(("same", [-3, 1]))])], [start], [], 300, 0, 0, start != 3)
            self.tells([(1, 1, [say(("even", [1, 1], 3))])], [start], [], 300, 0, 0, start % 3 != 2)

    def test_a_place_from_which_no_say_row_goes(self):
        program = [(1, 1, [("set", 1, [1, 1]), say(below(0)), ("if", below(0), [], [])])]
        for place in (0, 2, 3, 4, 5):
            self.tells(program, [7], [], 300, 0, place, False)
        self.tells(program, [7], [], 300, 0, 1, True)

    def test_each_moment_at_the_place_counts(self):
        body = [("while", below(5), [say(("same", [-3, 1])), ("set", 1, [1, 1])]), say(below(5))]
        self.tells([(1, 1, body)], [3], [], 300, 0, 2, True)
        # At its first moment alone, at its last alone, and none.
        self.tells([(1, 1, [("while", below(5), [say(below(4)), ("set", 1, [1, 1])])])], [0], [], 300, 0, 2, True)
        self.tells([(1, 1, [("while", below(5), [say(("under", [0, -1])), ("set", 1, [1, 1])])])], [0], [], 300, 0, 2,
                   True)
        self.tells([(1, 1, [("while", below(5), [say(below(5)), ("set", 1, [1, 1])])])], [0], [], 300, 0, 2, False)

    def test_steps(self):
        program = [(1, 1, [("set", 1, [1, 1]), ("set", 1, [1, 1]), say(below(0))])]
        for steps, wanted in ((0, False), (1, False), (2, True), (3, True), (300, True)):
            self.tells(program, [5], [], steps, 0, 2, wanted)
        self.tells([(1, 1, [say(below(0))])], [5], [], 0, 0, 0, True)

    def test_picks(self):
        program = [(0, 1, [("any", 1, 0, 9), say(below(5))])]
        for picks, wanted in (([], False), ([4], False), ([5], True), ([-1], True), ([10], False), ([4, 5], False)):
            self.tells(program, [], picks, 300, 0, 1, wanted)

    def test_places_that_the_run_does_not_reach(self):
        program = [(1, 1, [("if", below(5), [say(("same", [1, 0]))], [say(("same", [1, 0]))])])]
        self.tells(program, [4], [], 300, 0, 1, True)
        self.tells(program, [4], [], 300, 0, 3, False)
        self.tells(program, [5], [], 300, 0, 1, False)
        self.tells(program, [5], [], 300, 0, 3, True)

    def test_in_called_functions(self):
        program = [MORE, (1, 1, [("call", 1, 0, [[0, 1]]), say(below(8))])]
        for start, first, second in ((6, False, False), (7, False, True), (8, False, True), (9, True, True)):
            self.tells(program, [start], [], 300, 0, 1, first)
            self.tells(program, [start], [], 300, 1, 1, second)

    def test_the_function_counts_as_the_place_does(self):
        program = [(0, 1, [say(("same", [1, 0]))]), (0, 1, [say(ALWAYS), ("call", 1, 0, [])])]
        self.tells(program, [], [], 300, 0, 0, True)
        self.tells(program, [], [], 300, 1, 0, False)

    def test_a_start_that_is_none_is_refused(self):
        with self.assertRaises(NoStart):
            breaks([(1, 1, [say(below(5))])], [], [], 300, 0, 0)

    def test_what_is_handed_in_stays_as_it_was(self):
        check_own(self, breaks, [(1, 1, [say(below(5)), ("any", 1, 0, 3)])], [5], [2], 30, 0, 0)


class Breaker(unittest.TestCase):
    def tells(self, program, starts, marks, most, wanted, picks=(), steps=300, at=(0, 0)):
        told = breaker(program, starts, marks, list(picks), steps, most, *at)
        self.assertEqual(told, wanted, (program, starts, marks, most))
        self.assertEqual(book.breaker(program, starts, marks, list(picks), steps, most, *at), wanted)
        if wanted is not None:
            self.assertIs(type(told), list)
            self.assertTrue(all(is_whole(number) for number in told))

    def test_the_first_that_breaks_is_found(self):
        program = [(1, 1, [say(below(5))])]
        self.tells(program, [(-9, 9)], [], 1000, [9])
        self.tells(program, [(-9, 9)], [7, 6], 1000, [6])
        self.tells(program, [(-9, 9)], [6, 4], 1000, [6])
        self.tells(program, [(5, 9)], [], 1000, [5])
        self.tells(program, [(None, None)], [8, 3], 1000, [8])
        self.tells([(1, 1, [say(("under", [-5, -1]))])], [(-9, 9)], [-7], 1000, [-9])

    def test_none(self):
        program = [(1, 1, [say(below(5))])]
        self.tells(program, [(-9, 4)], [7], 1000, None)
        # 5 and on would break it, but are not tried.
        self.tells(program, [(0, None)], [], 1000, None)

    def test_a_place_from_which_no_say_row_goes(self):
        self.tells([(1, 1, [say(below(5))])], [(0, 9)], [], 1000, None, at=(0, 1))

    def test_most(self):
        # Tried are -9, 0, 2, 6, 9.
        program = [(1, 1, [say(below(5))])]
        for most, wanted in ((0, None), (1, None), (3, None), (4, [6]), (5, [6]), (6, [6]), (1000, [6])):
            self.tells(program, [(-9, 9)], [6, 2], most, wanted)
        self.tells(program, [(5, 9)], [], 0, None)
        self.tells(program, [(5, 9)], [], 1, [5])

    def test_without_parameters_there_is_one_start(self):
        program = [(0, 1, [say(("same", [1, 0]))])]
        self.tells(program, [], [3, 4], 1, [])
        self.tells(program, [], [], 1000, [])
        self.tells(program, [], [], 0, None)
        self.tells([(0, 1, [say(ALWAYS)])], [], [], 1000, None)

    def test_the_order_is_that_of_sorted_lists(self):
        # Broken where box 1 and box 2 together are above 5.
        program = [(2, 2, [say(("under", [-6, 1, 1]))])]
        self.tells(program, [(0, 4), (1, 7)], [3], 1000, [0, 7])
        self.tells(program, [(0, 4), (1, 4)], [3], 1000, [3, 3])
        self.tells(program, [(1, 7), (0, 4)], [3], 1000, [3, 3])
        self.tells(program, [(6, 7), (0, 4)], [3], 1000, [6, 0])
        # The starts in order are [0, 1], [0, 3], [0, 4], [3, 1], [3, 3].
        for most, wanted in ((4, None), (5, [3, 3])):
            self.tells(program, [(0, 4), (1, 4)], [3], most, wanted)

    def test_the_order_of_many(self):
        starts = [(0, 2), (None, 1), (-1, None)]
        order = list(itertools.product([0, 1, 2], [0, 1], [-1, 0, 1]))
        for count, start in enumerate(order):
            # Broken by starts that have the same first two numbers and no lower third one: this one is the first.
            body = [("if", ("same", [-start[0], 1, 0, 0]), [
                ("if", ("same", [-start[1], 0, 1, 0]), [say(("under", [-start[2], 0, 0, 1]))], [])], [])]
            self.tells([(3, 3, body)], starts, [1, 1], 1000, list(start), at=(0, 2))
            self.tells([(3, 3, body)], starts, [1], count, None, at=(0, 2))
            self.tells([(3, 3, body)], starts, [1], count + 1, list(start), at=(0, 2))

    def test_more_starts_than_can_be_gone_through(self):
        marks = list(range(1, 21))
        program = [(4, 4, [say(("under", [-22, 0, 0, 1, 1]))])]
        self.tells(program, [(0, None)] * 4, marks, 1000, [0, 0, 2, 20])
        self.tells(program, [(0, None)] * 4, marks, 62, None)
        self.tells(program, [(0, None)] * 4, marks, 63, [0, 0, 2, 20])

    def test_picks_and_steps(self):
        program = [(1, 1, [("any", 1, 0, 9), say(below(5))])]
        self.tells(program, [(0, 3)], [], 1000, None, at=(0, 1))
        self.tells(program, [(0, 3)], [], 1000, [0], picks=[7], at=(0, 1))
        self.tells(program, [(0, 3)], [], 1000, None, picks=[7], steps=0, at=(0, 1))
        self.tells(program, [(0, 3)], [], 1000, [0], picks=[7], steps=1, at=(0, 1))

    def test_in_called_functions(self):
        program = [MORE, (1, 1, [say(below(2)), ("call", 1, 0, [[0, 1]])])]
        self.tells(program, [(0, 20)], [8, 9, 10], 1000, [9], at=(0, 1))
        self.tells(program, [(0, 20)], [8, 9, 10], 1000, [8], at=(1, 0))

    def test_what_is_told_is_the_askers_own(self):
        program = [(2, 2, [say(("under", [-6, 1, 1])), ("any", 1, 0, 3)])]
        check_own(self, breaker, program, [(0, 4), (1, 4)], [3], [1], 30, 100, 0, 0)
        check_own(self, breaker, [(0, 1, [say(("same", [1, 0]))])], [], [3], [1], 30, 100, 0, 0)


class Tell(unittest.TestCase):
    def tell(self, program, starts, way, picks, steps, most):
        told = tell(program, starts, way, picks, steps, most)
        seen = look(program, starts, way)
        self.assertIs(type(told), list)
        self.assertEqual([one[:3] for one in told], words(program, seen))
        for one in told:
            self.assertIs(type(one), tuple)
            function, place, word, steps_there, start = one
            if word == "may":
                self.assertTrue(book.is_trail(program, seen, function, place, steps_there), (program, one))
                self.assertEqual(start, book.breaker(program, starts, way[1], picks, steps, most, function, place))
            else:
                self.assertEqual((steps_there, start), (None, None))
        return told

    def test_no_sayings(self):
        self.assertEqual(self.tell([(0, 1, [])], [], WAY, [], 300, 100), [])

    def test_always_and_never(self):
        program = [(1, 1, [("if", below(6), [say(below(6))], [say(below(6))])])]
        self.assertEqual(self.tell(program, [(0, 5)], WAY, [], 300, 100),
                         [(0, 1, "always", None, None), (0, 3, "never", None, None)])

    def test_may_with_a_start(self):
        program = [(1, 1, [say(below(5)), say(("same", [-3, 1]))])]
        self.assertEqual(self.tell(program, [(0, 9)], WAY, [], 300, 100), [
            (0, 0, "may", [(0, 0, [(0, 9)])], [9]),
            (0, 1, "may", [(0, 0, [(0, 9)]), (0, 1, [(0, 9)])], [0])])

    def test_may_without_a_start(self):
        # It does not fail for any start, but the stretches can't tell so: x * 2 is not x + x to them.
        program = [(1, 2, [("set", 2, [0, 2, 0]), say(("same", [0, -2, 1]))])]
        self.assertEqual(self.tell(program, [(0, 9)], WAY, [], 300, 100),
                         [(0, 1, "may", [(0, 0, [(0, 9), (0, 0)]), (0, 1, [(0, 9), (0, 18)])], None)])

    def test_the_marks_of_the_way_are_tried(self):
        program = [(1, 1, [say(("under", [-5, 1]))])]
        for marks, start in (([], None), ([4], None), ([4, 8, 6], [6])):
            told = self.tell(program, [(0, None)], (3, marks, 0), [], 300, 100)
            self.assertEqual([one[4] for one in told], [start])

    def test_most(self):
        program = [(1, 1, [say(("under", [-5, 1]))])]
        for most, start in ((0, None), (1, None), (2, None), (3, [6]), (100, [6])):
            told = self.tell(program, [(0, None)], (3, [4, 8, 6], 0), [], 300, most)
            self.assertEqual([one[4] for one in told], [start])

    def test_picks_and_steps(self):
        program = [(0, 1, [("any", 1, 0, 9), say(below(5)), say(("same", [-7, 1]))])]
        for picks, steps, found in (([], 300, [None, []]), ([7], 300, [[], None]), ([8], 300, [[], []]),
                                    ([8], 1, [[], None]), ([8], 0, [None, None])):
            told = self.tell(program, [], WAY, picks, steps, 100)
            self.assertEqual([one[4] for one in told], found)

    def test_each_saying_has_its_own_start(self):
        program = [MORE, (1, 1, [("call", 1, 0, [[0, 1]]), say(below(21)), ("if", below(3), [say(below(2))], [])])]
        told = self.tell(program, [(0, 30)], (3, [20, 9, 1], 0), [], 300, 100)
        self.assertEqual([(one[0], one[1], one[2], one[4]) for one in told],
                         [(0, 1, "may", [9]), (1, 1, "may", [20]), (1, 3, "may", [1])])

    def test_all_at_once(self):
        lost = (0, 1, [("while", ALWAYS, []), say(ALWAYS)])
        main = (1, 1, [("while", below(3), [("set", 1, [1, 1]), say(below(3))]), say(("same", [-3, 1]))])
        told = self.tell([lost, main], [(0, 1)], (5, [], 0), [], 300, 100)
        self.assertEqual(told, [
            (0, 3, "never", None, None),
            (1, 3, "may", [(1, 0, [(0, 1)]), (1, 1, [(0, 3)]), (1, 2, [(0, 2)]), (1, 3, [(1, 3)])], [0]),
            (1, 5, "always", None, None)])

    def test_refused_as_a_look_is(self):
        good = [(2, 2, [say(("same", [0, 1, 0]))])]
        for error, program, starts, way in (
                (NoShape, [], [], WAY), (NoBox, [(1, 1, [("set", 2, [0, 0])])], [(1, 0)], (-1, [], -1)),
                (NoStart, good, [(1, 0)], (-1, [], 0)), (NoStart, good, [(0, 0)] * 3, WAY),
                (NoStretch, good, [(0, 0), (1, 0)], (0, [], -1)), (NoWay, good, [(0, 0)] * 2, (-1, [], 0)),
                (NoWay, good, [(0, 0)] * 2, (0, [], -1))):
            with self.assertRaises(error) as caught:
                tell(program, starts, way, [], 300, 100)
            self.assertIs(type(caught.exception), error)
        # Where nothing may fail, too.
        with self.assertRaises(NoStart):
            tell([(1, 1, [])], [], WAY, [], 300, 0)

    def test_many_figures(self):
        program = [(1, 1, [say(("under", [-10 ** 100, 1]))])]
        self.assertEqual(self.tell(program, [(-GREAT, GREAT)], (3, [10 ** 100], 0), [], 300, 100),
                         [(0, 0, "may", [(0, 0, [(-GREAT, GREAT)])], [10 ** 100])])

    def test_by_many_programs(self):
        found = []
        for seed in range(900, 960):
            maker = Ringer(seed)
            program = maker.program()
            starts = [maker.dice.choice([(-3, 8), (0, 0), (0, None)]) for box in range(program[-1][0])]
            picks = [maker.dice.throw(21) - 10 for pick in range(maker.dice.throw(6))]
            way = (maker.dice.throw(4), [maker.dice.throw(9) for k in range(3)], maker.dice.throw(3))
            told = self.tell(program, starts, way, picks, 120, maker.dice.throw(30))
            for function, place, word, steps_there, start in told:
                found.append((word, start is None))
                if start is not None:
                    self.assertIs(breaks(program, start, picks, 120, function, place), True)
        self.assertGreater(found.count(("may", False)), 30)
        self.assertGreater(found.count(("may", True)), 10)

    def test_trails_are_those_that_are_told_alone(self):
        program = [MORE, (1, 1, [("call", 1, 0, [[0, 1]]), say(below(21))])]
        seen = look(program, [(0, 30)], WAY)
        for function, place, word, steps_there, start in tell(program, [(0, 30)], WAY, [], 300, 100):
            self.assertEqual(steps_there, trail(program, seen, function, place))
            self.assertIn((function, place), [saying[:2] for saying in sayings(program)])

    def test_what_is_told_is_the_askers_own(self):
        program = [MORE, (2, 2, [("call", 1, 0, [[0, 1, 1]]), say(("under", [-5, 1, 0])), say(("same", [0, 1, 0]))])]
        check_own(self, tell, copy.deepcopy(program), [(0, 30), (0, 3)], (3, [20, 9, 1], 2), [4], 300, 100)


if __name__ == "__main__":
    unittest.main()
