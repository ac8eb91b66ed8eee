import copy
import itertools
import unittest

import book_looks as book
from kinds import check_own, is_stretch, is_whole
from makers import Ringer
from seer.looks import look
from seer.tellers import sayings, trail, words
from things import ALL, GREAT, one_box, over

WAY = (4, [0, 20], 1)
ALWAYS = ("same", [0, 0])
NOT_EVER = ("same", [1, 0])
MORE = (1, 2, [("set", 2, [1, 1, 0]), ("say", ("under", [-9, 1, 0]))])


def say(claim):
    return ("say", claim)


def below(top):
    return ("under", [-top, 1])


class Sayings(unittest.TestCase):
    def tells(self, program, wanted):
        told = sayings(program)
        self.assertEqual(told, wanted)
        self.assertIs(type(told), list)
        for saying in told:
            self.assertIs(type(saying), tuple)
            self.assertTrue(is_whole(saying[0]) and is_whole(saying[1]))
            self.assertIs(type(saying[2]), tuple)

    def test_none(self):
        self.tells([(0, 1, [])], [])
        self.tells([(0, 1, [("set", 1, [1, 1])]), (0, 1, [("while", ALWAYS, [])])], [])

    def test_one(self):
        for claim in (("under", [-3, 1]), ("same", [5, 0]), ("even", [0, 2], 3)):
            self.tells([(1, 1, [say(claim)])], [(0, 0, claim)])

    def test_the_place_is_the_one_ahead(self):
        self.tells([(0, 1, [("set", 1, [1, 1]), say(ALWAYS), say(below(3))])], [(0, 1, ALWAYS), (0, 2, below(3))])

    def test_the_order_of_places(self):
        body = [say(below(0)), ("if", ALWAYS, [say(below(1)), say(below(2))], [say(below(3))]), say(below(4)),
                ("while", ALWAYS, [say(below(5)), ("while", ALWAYS, [say(below(6))]), say(below(7))]), say(below(8))]
        self.tells([(0, 1, body)], [
            (0, 0, below(0)), (0, 2, below(1)), (0, 3, below(2)), (0, 5, below(3)), (0, 7, below(4)), (0, 10, below(5)),
            (0, 13, below(6)), (0, 15, below(7)), (0, 17, below(8))])

    def test_the_order_of_functions(self):
        self.tells([(0, 1, [("set", 1, [1, 0]), say(below(0))]), (0, 1, []), (0, 1, [say(below(1))])],
                   [(0, 1, below(0)), (2, 0, below(1))])

    def test_the_same_claim_twice(self):
        self.tells([(0, 1, [say(ALWAYS), say(ALWAYS)]), (0, 1, [say(ALWAYS)])],
                   [(0, 0, ALWAYS), (0, 1, ALWAYS), (1, 0, ALWAYS)])

    def test_what_is_told_is_the_askers_own(self):
        program = [(0, 1, [say(below(0)), ("while", ALWAYS, [say(("even", [0, 1], 2))])])]
        check_own(self, sayings, copy.deepcopy(program))


class Words(unittest.TestCase):
    def tells(self, program, starts, wanted, way=WAY):
        told = words(program, look(program, starts, way))
        self.assertEqual([one[2] for one in told], wanted)
        self.assertEqual([one[:2] for one in told], [one[:2] for one in sayings(program)])
        self.assertIs(type(told), list)
        self.assertTrue(all(type(one) is tuple and len(one) == 3 for one in told))

    def test_no_sayings(self):
        self.tells([(0, 1, [])], [], [])

    def test_always(self):
        self.tells([(1, 1, [say(below(6)), say(("same", [0, 0])), say(("even", [2, 4], 2))])], [(0, 5)],
                   ["always"] * 3)

    def test_may(self):
        self.tells([(1, 1, [say(below(5)), say(("same", [-3, 1])), say(("even", [0, 1], 2)), say(below(0))])],
                   [(0, 5)], ["may"] * 4)

    def test_never(self):
        self.tells([(1, 1, [("if", below(6), [say(below(6))], [say(below(6)), say(NOT_EVER)]), say(below(7))])],
                   [(0, 5)], ["always", "never", "never", "always"])

    def test_a_saying_that_never_holds_may_fail(self):
        self.tells([(1, 1, [say(NOT_EVER)])], [(0, 5)], ["may"])

    def test_never_where_held_tells_never_whatever_is_told_wide(self):
        self.tells([MORE, (0, 1, [])], [], ["never"])
        self.tells([MORE, (0, 1, [("call", 1, 0, [[3, 0]])])], [], ["always"])
        self.tells([MORE, (0, 1, [("call", 1, 0, [[9, 0]])])], [], ["may"])

    def test_what_is_told_there_counts_not_what_can_be(self):
        body = [("while", below(3), [("set", 1, [1, 1])]), say(("same", [-3, 1]))]
        self.tells([(1, 1, body)], [(0, 0)], ["may"], (0, [], 0))
        self.tells([(1, 1, body)], [(0, 0)], ["always"], (0, [], 1))
        self.tells([(1, 1, body)], [(0, 0)], ["always"], (3, [], 0))

    def test_each_word_in_the_order_of_functions_then_places(self):
        main = (1, 1, [say(below(0)), ("call", 1, 0, [[0, 1]]), ("if", ALWAYS, [say(ALWAYS)], [say(ALWAYS)])])
        program = [MORE, main]
        self.assertEqual(words(program, look(program, [(2, 3)], WAY)),
                         [(0, 1, "always"), (1, 0, "may"), (1, 3, "always"), (1, 5, "never")])

    def test_by_a_look_as_it_is_handed_in(self):
        # Nothing lies in it, but it is not never.
        program = [(1, 1, [say(NOT_EVER)])]
        empty = one_box(5, 4, ALL)
        self.assertEqual(words(program, ([], [], [[empty, None]], False)), [(0, 0, "always")])
        self.assertEqual(words(program, ([], [], [[None, empty]], False)), [(0, 0, "never")])
        self.assertEqual(words(program, ([], [], [[one_box(4, 5, ALL), None]], True)), [(0, 0, "may")])

    def test_what_is_told_is_sharpened_ahead(self):
        program = [(1, 1, [say(("under", [-8, 1]))])]
        self.assertEqual(words(program, ([], [], [[one_box(0, 9, (5, 2)), None]], False)), [(0, 0, "always")])

    def test_many_figures(self):
        self.tells([(1, 1, [say(("under", [-10 ** 100, 1]))])], [(-GREAT, 10 ** 100 - 1)], ["always"])
        self.tells([(1, 1, [say(("under", [-10 ** 100, 1]))])], [(-GREAT, 10 ** 100)], ["may"])

    def test_what_is_told_is_the_askers_own(self):
        program = [MORE, (1, 1, [("call", 1, 0, [[0, 1]]), say(below(4))])]
        check_own(self, words, copy.deepcopy(program), look(program, [(2, 3)], WAY))


class TrailCase(unittest.TestCase):
    def trail(self, program, seen, function, place):
        told = trail(program, seen, function, place)
        self.assertTrue(book.is_trail(program, seen, function, place, told), (program, function, place, told))
        if told is not None:
            self.check_kinds(told)
        return told

    def check_kinds(self, told):
        self.assertIs(type(told), list)
        for step in told:
            self.assertIs(type(step), tuple)
            self.assertTrue(is_whole(step[0]) and is_whole(step[1]))
            self.assertIs(type(step[2]), list)
            self.assertTrue(all(is_stretch(one) for one in step[2]))


class Trail(TrailCase):
    def tells(self, program, starts, function, place, wanted, way=WAY):
        told = self.trail(program, look(program, starts, way), function, place)
        self.assertEqual(told if told is None else [step[:2] for step in told], wanted)
        return told

    def test_to_the_first_place(self):
        told = self.tells([(1, 2, [])], [(3, 5)], 0, 0, [(0, 0)])
        self.assertEqual(told, [(0, 0, [(3, 5), (0, 0)])])

    def test_none_where_held_tells_never(self):
        body = [("if", below(6), [], [("set", 1, [0, 0])])]
        for place in (2, 3):
            self.tells([(1, 1, body)], [(0, 5)], 0, place, None)
        self.tells([MORE, (0, 1, [])], [], 0, 0, None)
        self.tells([MORE, (0, 1, [])], [], 0, 2, None)

    def test_within_one_function(self):
        told = self.tells([(1, 1, [("set", 1, [1, 1]), say(ALWAYS), ("part", 1, [0, 1], 2)])], [(0, 5)], 0, 3,
                          [(0, 0), (0, 1), (0, 2), (0, 3)])
        self.assertEqual([step[2] for step in told], [[(0, 5)], [(1, 6)], [(1, 6)], [(0, 3)]])

    def test_by_the_one_body_of_a_choice_or_the_other(self):
        body = [("if", below(3), [("set", 1, [7, 0])], [])]
        self.tells([(1, 1, body)], [(0, 2)], 0, 4, [(0, 0), (0, 1), (0, 2), (0, 4)])
        self.tells([(1, 1, body)], [(3, 5)], 0, 4, [(0, 0), (0, 3), (0, 4)])
        self.tells([(1, 1, body)], [(0, 5)], 0, 2, [(0, 0), (0, 1), (0, 2)])

    def test_past_a_ring_and_into_it(self):
        program = [(1, 1, [("while", below(3), [("set", 1, [1, 1])]), say(ALWAYS)])]
        told = self.tells(program, [(0, 0)], 0, 5, [(0, 0), (0, 1), (0, 4), (0, 5)])
        self.assertEqual([step[2] for step in told], [[(0, 0)], [(0, 3)], [(3, 3)], [(3, 3)]])
        self.tells(program, [(0, 0)], 0, 3, [(0, 0), (0, 1), (0, 2), (0, 3)])
        self.tells(program, [(5, 6)], 0, 3, None)

    def test_a_ring_within_a_ring(self):
        inner = ("while", ("under", [-2, 0, 1]), [("set", 2, [1, 0, 1])])
        body = [("while", ("under", [-3, 1, 0]), [("set", 2, [0, 0, 0]), inner, ("set", 1, [1, 1, 0])])]
        self.tells([(0, 2, body)], [], 0, 8, [(0, 0), (0, 1), (0, 2), (0, 3), (0, 4), (0, 7), (0, 8)])
        self.tells([(0, 2, body)], [], 0, 9, [(0, 0), (0, 1), (0, 9)])

    def test_through_a_called_function(self):
        main = (1, 1, [("set", 1, [1, 1]), ("call", 1, 0, [[0, 1]]), say(ALWAYS)])
        told = self.tells([MORE, main], [(0, 5)], 0, 1, [(1, 0), (1, 1), (0, 0), (0, 1)])
        self.assertEqual(told[1:], [(1, 1, [(1, 6)]), (0, 0, [(1, 6), (0, 0)]), (0, 1, [(1, 6), (2, 7)])])

    def test_past_a_called_function(self):
        main = (1, 1, [("set", 1, [1, 1]), ("call", 1, 0, [[0, 1]]), say(ALWAYS)])
        self.tells([MORE, main], [(0, 5)], 1, 3, [(1, 0), (1, 1), (1, 2), (1, 3)])

    def test_through_functions_one_within_another(self):
        between = (1, 2, [("set", 2, [0, 1, 0]), ("call", 2, 0, [[0, 0, 1]])])
        main = (1, 1, [("call", 1, 1, [[0, 1]])])
        self.tells([MORE, between, main], [(0, 5)], 0, 2, [(2, 0), (1, 0), (1, 1), (0, 0), (0, 1), (0, 2)])

    def test_through_a_call_that_is_reached_and_not_through_one_that_is_not(self):
        calls = [("if", below(6), [("set", 1, [1, 1])], [("call", 1, 0, [[0, 1]])]), ("call", 1, 0, [[0, 1]])]
        self.tells([MORE, (1, 1, calls)], [(0, 5)], 0, 0, [(1, 0), (1, 1), (1, 2), (1, 5), (0, 0)])

    def test_into_a_function_that_never_ends(self):
        lost = (0, 1, [("set", 1, [1, 0]), ("while", ALWAYS, [])])
        main = (0, 1, [("call", 1, 0, []), say(ALWAYS)])
        self.tells([lost, main], [], 0, 3, [(1, 0), (0, 0), (0, 1), (0, 2), (0, 3)])
        self.tells([lost, main], [], 1, 1, None)

    def test_stretches_are_told_as_they_are(self):
        program = [(1, 1, [("while", below(100), [("set", 1, [2, 1])])])]
        told = self.tells(program, [(0, 0)], 0, 2, [(0, 0), (0, 1), (0, 2)], (1, [5, 101], 0))
        self.assertEqual(told[1], (0, 1, [(0, 101)]))
        told = trail(program, ([], [], [[one_box(0, 9, (5, 2))] * 5], False), 0, 1)
        self.assertEqual(told, [(0, 0, [(0, 9)]), (0, 1, [(0, 9)])])

    def test_by_the_summaries_of_the_look(self):
        program = [MORE, (0, 1, [("call", 1, 0, [[0, 1]])])]
        wide, summaries, held, grew = look(program, [], WAY)
        self.assertEqual(summaries, [over(2, {(1, 2): -1, (2, 1): 1})])
        self.tells(program, [], 1, 1, [(1, 0), (1, 1)])

    def test_not_through_a_call_whose_arguments_are_never(self):
        # Nothing lies in what is told at the first call's place, but it is not never.
        calls = [("if", below(3), [("call", 1, 0, [[0, 1]])], [("call", 1, 0, [[0, 1]])])]
        program = [MORE, (1, 1, calls)]
        wide, summaries, held, grew = look(program, [(0, 5)], WAY)
        self.assertIn(self.trail(program, (wide, summaries, held, grew), 0, 0)[1][:2], [(1, 1), (1, 3)])
        held[1][1] = one_box(5, 4, ALL)
        self.assertEqual(self.trail(program, (wide, summaries, held, grew), 0, 0)[1][:2], (1, 3))

    def test_what_is_told_is_the_askers_own(self):
        main = (1, 1, [("set", 1, [1, 1]), ("call", 1, 0, [[0, 1]]), say(ALWAYS)])
        seen = look([MORE, main], [(0, 5)], WAY)
        for function, place in ((0, 1), (1, 3), (1, 0)):
            check_own(self, trail, copy.deepcopy([MORE, main]), copy.deepcopy(seen), function, place)


class ByManyPrograms(TrailCase):
    def each(self, seeds):
        for seed in seeds:
            maker = Ringer(seed)
            program = maker.program()
            starts = [maker.dice.choice([(-3, 8), (0, 0), (0, None)]) for box in range(program[-1][0])]
            yield program, look(program, starts, (maker.dice.throw(4), [0, 9], maker.dice.throw(3)))

    def test_sayings_and_words_by_the_book(self):
        found = []
        for program, seen in self.each(range(700, 760)):
            self.assertEqual(sayings(program), book.sayings(program))
            self.assertEqual(words(program, seen), book.words(program, seen))
            found += [one[2] for one in words(program, seen)]
        self.assertGreater(min(found.count(word) for word in ("never", "always", "may")), 20)

    def test_there_is_a_trail_to_each_place_that_is_not_never(self):
        functions = set()
        for program, seen in itertools.islice(self.each(range(800, 830)), 30):
            for function, table in enumerate(seen[2]):
                for place in range(0, len(table), 3):
                    told = self.trail(program, seen, function, place)
                    functions.add(0 if told is None else len({step[0] for step in told}))
        self.assertLessEqual({0, 1, 2, 3}, functions)


if __name__ == "__main__":
    unittest.main()
