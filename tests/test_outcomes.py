import copy
import itertools
import unittest

import book
from kinds import check_own, is_told
from seer.calls import answered
from seer.outcomes import outcome
from seer.runs import done
from seer.sums import value
from seer.tolds import of_stretches, sharp, told_has, told_inside
from seer.whens import when
from things import (
    ALL, GREAT, NO_BOXES, Case, boxes_of, one_box, over, some_boxes, some_claim, some_sum, some_things, told_about,
)

WORDS = ("go", "say", "when", "set", "part", "rest", "any", "call")
# The answer is 1 more than the parameter.
NEXT = over(2, {(2, 1): 1, (1, 2): -1})
# One act of each word over two boxes, a call of a function with one parameter.
ACTS = (
    ("go",), ("say", ("same", [0, 1, 0])), ("when", ("under", [-4, 1, 0]), True), ("when", ("same", [-4, 1, 0]), False),
    ("when", ("even", [0, 1, 1], 3), False), ("set", 1, [1, 1, 1]), ("part", 2, [0, 1, 0], 3),
    ("rest", 1, [0, 1, 1], 4), ("any", 2, 3, None), ("call", 2, 0, [[0, 1, 0]]),
)


def some_act(dice, n, word):
    if word == "go":
        return (word,)
    if word == "say":
        return (word, some_claim(dice, n))
    if word == "when":
        return (word, some_claim(dice, n), dice.throw(2) == 0)
    x = 1 + dice.throw(n)
    if word == "set":
        return (word, x, some_sum(dice, n))
    if word == "any":
        lo = dice.throw(9) - 5
        return (word, x, dice.choice([lo, None]), dice.choice([lo + dice.throw(4), None]))
    if word == "call":
        f = dice.throw(3)
        return (word, x, f, [some_sum(dice, n) for k in range(f)])
    return (word, x, some_sum(dice, n), 1 + dice.throw(6))


def some_summaries(dice):
    """Of three functions with as many parameters as their numbers are."""
    return [told_about(dice, some_boxes(dice, f + 1, 8)) if dice.throw(12) else None for f in range(3)]


def some_wider(dice, told):
    bounds = copy.deepcopy(told[0])
    for i, j in itertools.permutations(range(len(bounds)), 2):
        if bounds[i][j] is not None:
            bounds[i][j] = dice.choice((bounds[i][j], bounds[i][j] + dice.throw(5), None))
    return (bounds, [dice.choice((left, looser(dice, left), ALL)) for left in told[1]])


def looser(dice, left):
    m = dice.choice((2, 3, 4)) if left[0] == 0 else dice.choice([m for m in range(1, left[0] + 1) if left[0] % m == 0])
    return (m, left[1] % m)


class Outcome(Case):
    def tells(self, told, act, wanted, summaries=()):
        self.is_thing(outcome(told, act, list(summaries)), wanted, (told, act, summaries))

    def test_never(self):
        for act in ACTS:
            self.tells(None, act, None, [NEXT])

    def test_never_by_the_sharpening(self):
        for told in (over(2, {(1, 0): 1, (0, 1): -3}), over(2, {(1, 2): 1, (2, 1): -1}, [(2, 0), (2, 0)]),
                     over(2, {(2, 0): 4, (0, 2): -1}, [ALL, (5, 0)])):
            for act in ACTS:
                self.tells(told, act, None, [NEXT])

    def test_go_and_say(self):
        for told in (over(2, {(1, 0): 5, (2, 1): 2}, [(4, 3), ALL]), over(2, {}), over(2, {(1, 0): 4, (0, 1): -4})):
            self.tells(told, ("go",), sharp(told))
            self.tells(told, ("say", ("same", [-9, 1, 0])), sharp(told))
            self.tells(told, ("say", ("under", [0, 0, 0])), sharp(told))
        self.tells(one_box(0, 9, (5, 2)), ("go",), one_box(2, 7, (5, 2)))
        self.tells(NO_BOXES, ("go",), NO_BOXES)

    def test_when(self):
        told = one_box(-5, 5, ALL)
        self.tells(told, ("when", ("under", [0, 1]), True), one_box(-5, -1, ALL))
        self.tells(told, ("when", ("under", [0, 1]), False), one_box(0, 5, ALL))
        self.tells(told, ("when", ("same", [-3, 1]), True), one_box(3, 3, (0, 3)))
        self.tells(told, ("when", ("same", [-5, 1]), False), one_box(-5, 4, ALL))
        self.tells(told, ("when", ("even", [0, 1], 2), True), one_box(-4, 4, (2, 0)))
        self.tells(told, ("when", ("even", [0, 1], 2), False), one_box(-5, 5, (2, 1)))
        self.tells(told, ("when", ("even", [0, 1], 3), False), told)
        self.tells(told, ("when", ("under", [9, 1]), True), None)

    def test_when_it_is_sharpened_first(self):
        told = one_box(0, 9, (5, 2))
        self.tells(told, ("when", ("even", [0, 1], 3), False), one_box(2, 7, (5, 2)))
        self.tells(told, ("when", ("same", [-7, 1]), False), one_box(2, 2, (0, 2)))
        self.tells(told, ("when", ("same", [-4, 1]), False), one_box(2, 7, (5, 2)))
        tied = over(2, {(1, 2): 0, (2, 1): 0}, [(4, 0), ALL])
        self.assertEqual(when(tied, ("even", [0, 0, 1], 4), False), tied)
        self.tells(tied, ("when", ("even", [0, 0, 1], 4), False), None)

    def test_set(self):
        self.tells(one_box(0, 9, (3, 1)), ("set", 1, [1, 1]), one_box(2, 8, (3, 2)))
        self.tells(one_box(0, 9, ALL), ("set", 1, [0, -2]), one_box(-18, 0, (2, 0)))
        self.tells(one_box(0, 9, ALL), ("set", 1, [4, 0]), one_box(4, 4, (0, 4)))

    def test_set_of_several_boxes(self):
        told = over(3, {(1, 0): 9, (0, 1): 0, (2, 3): 4}, [(3, 1), ALL, ALL])
        self.tells(told, ("set", 2, [5, 1, 0, 0]), over(3, {
            (1, 0): 7, (0, 1): -1, (2, 0): 12, (0, 2): -6, (2, 1): 5, (1, 2): -5}, [(3, 1), (3, 0), ALL]))
        self.tells(over(2, {(1, 2): 3, (2, 1): -3}), ("set", 1, [1, 1, 0]), over(2, {(1, 2): 4, (2, 1): -4}))
        self.tells(over(2, {(1, 2): 3, (2, 1): -3}), ("set", 1, [0, 0, 1]), over(2, {(1, 2): 0, (2, 1): 0}))
        self.tells(over(2, {(1, 2): 3, (2, 1): -2}), ("set", 2, [0, 1, -1]), over(2, {(2, 0): 3, (0, 2): -2}))

    def test_set_it_is_sharpened_first(self):
        told = over(2, {(1, 0): 5, (2, 1): 2})
        self.tells(told, ("set", 1, [0, 0, 2]), over(2, {(1, 0): 14, (2, 0): 7, (1, 2): 7}, [(2, 0), ALL]))

    def test_part(self):
        self.tells(one_box(-7, 9, ALL), ("part", 1, [0, 1], 4), one_box(-2, 2, ALL))
        self.tells(one_box(-7, None, ALL), ("part", 1, [0, 1], 4), one_box(-2, None, ALL))
        self.tells(one_box(None, 9, ALL), ("part", 1, [0, 1], 4), one_box(None, 2, ALL))
        self.tells(one_box(-8, 40, (12, 4)), ("part", 1, [0, 1], 4), one_box(-2, 10, (3, 1)))
        self.tells(one_box(-7, 9, ALL), ("part", 1, [1, 2], 1), one_box(-13, 19, (2, 1)))
        self.tells(one_box(5, 5, ALL), ("part", 1, [0, -1], 2), one_box(-3, -3, (0, -3)))

    def test_rest(self):
        self.tells(one_box(13, 17, ALL), ("rest", 1, [0, 1], 10), one_box(3, 7, ALL))
        self.tells(one_box(13, 21, ALL), ("rest", 1, [0, 1], 10), one_box(0, 9, ALL))
        self.tells(over(1, {}), ("rest", 1, [0, 1], 10), one_box(0, 9, ALL))
        self.tells(over(1, {}, [(4, 1)]), ("rest", 1, [0, 1], 6), one_box(1, 5, (2, 1)))
        self.tells(over(1, {}, [(6, 1)]), ("rest", 1, [0, 1], 3), one_box(1, 1, (0, 1)))
        self.tells(over(1, {}), ("rest", 1, [7, 4], 2), one_box(1, 1, (0, 1)))
        self.tells(one_box(-9, -7, ALL), ("rest", 1, [0, 1], 10), one_box(1, 3, ALL))
        self.tells(over(1, {}), ("rest", 1, [0, 1], 1), one_box(0, 0, (0, 0)))

    def test_part_and_rest_of_several_boxes(self):
        # Boxes 1 and 2 lie from 10 to 14 apart, wherever they are.
        told = over(3, {(1, 2): 14, (2, 1): -10, (3, 0): 5, (0, 3): -5}, [ALL, ALL, (0, 5)])
        here = {(1, 2): 14, (2, 1): -10}
        self.tells(told, ("part", 3, [0, 1, -1, 0], 5), over(3, {**here, (3, 0): 2, (0, 3): -2}, [ALL, ALL, (0, 2)]))
        self.tells(told, ("rest", 3, [0, 1, -1, 0], 5), over(3, {**here, (3, 0): 4, (0, 3): 0}))
        self.tells(told, ("rest", 3, [3, 1, -1, 0], 20), over(3, {**here, (3, 0): 17, (0, 3): -13}))
        self.tells(told, ("rest", 1, [3, 0, 0, 2], 20), over(3, {
            (1, 0): 13, (0, 1): -13, (3, 0): 5, (0, 3): -5, (1, 3): 8, (3, 1): -8}, [(0, 13), ALL, (0, 5)]))

    def test_part_and_rest_it_is_sharpened_first(self):
        told = over(2, {(1, 0): 5, (2, 1): 2})
        self.assertEqual(outcome(told, ("part", 1, [0, 0, 1], 2), [])[0][1][0], 3)
        self.tells(one_box(0, 9, (5, 2)), ("part", 1, [0, 1], 3), one_box(0, 2, ALL))
        self.tells(one_box(0, 11, (5, 2)), ("part", 1, [0, 1], 3), one_box(0, 2, ALL))
        self.tells(one_box(11, 19, (5, 2)), ("rest", 1, [0, 1], 10), one_box(2, 7, (5, 2)))

    def test_any(self):
        told = over(2, {(1, 2): 3, (2, 1): -3, (1, 0): 9}, [(2, 1), ALL])
        other = {(2, 0): 6}
        self.tells(told, ("any", 1, 4, 8), over(2, {**other, (1, 0): 8, (0, 1): -4, (2, 1): 2}, [ALL, (2, 0)]))
        self.tells(told, ("any", 1, 4, None), over(2, {**other, (0, 1): -4, (2, 1): 2}, [ALL, (2, 0)]))
        self.tells(told, ("any", 1, None, 8), over(2, {**other, (1, 0): 8}, [ALL, (2, 0)]))
        self.tells(told, ("any", 1, None, None), over(2, other, [ALL, (2, 0)]))
        self.tells(told, ("any", 2, 4, 4), over(2, {
            (1, 0): 9, (2, 0): 4, (0, 2): -4, (1, 2): 5}, [(2, 1), (0, 4)]))

    def test_call(self):
        told = over(2, {(1, 0): 9, (0, 1): 0})
        wanted = over(2, {(1, 0): 9, (0, 1): 0, (2, 0): 10, (0, 2): -1, (2, 1): 1, (1, 2): -1})
        self.tells(told, ("call", 2, 0, [[0, 1, 0]]), wanted, [NEXT])
        self.tells(told, ("call", 2, 0, [[0, 1, 0]]), None, [None])
        self.tells(told, ("call", 1, 0, []), over(2, {(1, 0): 7, (0, 1): -7}, [(0, 7), ALL]), [one_box(7, 7, (0, 7))])

    def test_call_by_the_summary_of_its_function_alone(self):
        told = over(2, {(1, 0): 9, (0, 1): 0})
        wanted = outcome(told, ("call", 2, 0, [[0, 1, 0]]), [NEXT])
        for summaries in ([None, NEXT], [NO_BOXES, NEXT, None], ["not looked at", NEXT, 7]):
            self.tells(told, ("call", 2, 1, [[0, 1, 0]]), wanted, summaries)

    def test_call_it_is_sharpened_once_more(self):
        told = over(2, {(1, 0): 0, (2, 0): 8, (2, 1): -2}, [(4, 3), (3, 1)])
        summary = over(2, {(0, 2): -1, (1, 0): 4, (1, 2): -2})
        row = [[-5, -1, -1]]
        wanted = answered(sharp(told), 1, row, summary)
        self.assertNotEqual(wanted, answered(told, 1, row, summary))
        self.tells(told, ("call", 1, 0, row), wanted, [summary])

    def test_summaries_that_no_act_but_a_call_looks_at(self):
        told = over(2, {(1, 0): 9, (0, 1): 0})
        for act in ACTS[:-1]:
            self.assertEqual(outcome(told, act, []), outcome(told, act, [None, "not looked at"]))

    def test_many_figures(self):
        self.tells(one_box(0, GREAT, ALL), ("set", 1, [10 ** 100, 10 ** 9]),
                   one_box(10 ** 100, 10 ** 100 + GREAT * 10 ** 9, (10 ** 9, 0)))
        self.tells(one_box(0, GREAT, ALL), ("part", 1, [0, 1], 10 ** 100), one_box(0, 10 ** 200 - 1, ALL))
        self.tells(one_box(0, GREAT, ALL), ("rest", 1, [0, 1], 10 ** 100), one_box(0, 10 ** 100 - 1, ALL))
        self.tells(one_box(0, GREAT, ALL), ("any", 1, -10 ** 100, 10 ** 100), one_box(-10 ** 100, 10 ** 100, ALL))


class ByManyActs(Case):
    def each(self, seed, turns, words, boxes=(1, 2, 3, 4)):
        for dice, n, told in some_things(seed, turns, boxes):
            yield dice, n, told, some_act(dice, n, dice.choice(words)), some_summaries(dice)

    def test_by_the_book(self):
        seen = set()
        for dice, n, told, act, summaries in self.each(51, 5000, WORDS):
            found = outcome(told, act, summaries)
            seen.add((act[0], found is None))
            self.is_thing(found, book.outcome(told, act, summaries), (told, act, summaries))
        self.assertEqual(seen, set(itertools.product(WORDS, (True, False))))

    def test_boxes_that_lie_in_it_lie_in_the_outcome_when_it_is_done(self):
        seen = {}
        for dice, n, told, act, summaries in self.each(52, 700, WORDS[:-1], (1, 2)):
            found = outcome(told, act, summaries)
            for boxes in boxes_of(told, n, 5):
                for pick in (-4, -1, 0, 3) if act[0] == "any" else (0,):
                    new = done(boxes, act, pick)
                    if new is not None:
                        self.assertIs(told_has(found, new), True, (told, act, boxes, pick))
                        seen[act[0]] = seen.get(act[0], 0) + 1
        self.assertEqual(set(seen), set(WORDS[:-1]))
        self.assertGreater(min(seen.values()), 200)

    def test_boxes_with_an_answer_of_the_summary_lie_in_the_outcome(self):
        many = 0
        for dice, n, told, act, summaries in self.each(53, 500, ("call",), (1, 2)):
            word, x, f, row = act
            found = outcome(told, act, summaries)
            for boxes, answer in itertools.product(boxes_of(told, n, 4), range(-9, 10)):
                if told_has(summaries[f], [value(one, boxes) for one in row] + [answer]):
                    many += 1
                    new = boxes[:x - 1] + [answer] + boxes[x:]
                    self.assertIs(told_has(found, new), True, (told, act, summaries, boxes, answer))
        self.assertGreater(many, 500)

    def test_a_told_thing_inside_another_has_an_outcome_inside_the_others(self):
        seen = set()
        for dice, n, told, act, summaries in self.each(54, 5000, WORDS):
            wider = some_wider(dice, told)
            self.assertIs(told_inside(told, wider), True)
            within = outcome(told, act, summaries)
            about = outcome(wider, act, summaries)
            self.assertIs(told_inside(within, about), True, (told, wider, act, summaries))
            seen.add((act[0], within is None, about is None, within == about))
        for word in WORDS:
            kinds = {(word, True, True, True), (word, True, False, False), (word, False, False, False)}
            self.assertLessEqual(kinds, seen)

    def test_by_single_numbers_it_is_that_of_what_the_boxes_hold_then(self):
        seen = set()
        for dice, n, told, act, summaries in self.each(55, 3000, WORDS[:-2]):
            boxes = some_boxes(dice, n, dice.choice((3, 20, GREAT)))
            new = done(boxes, act, 0)
            wanted = None if new is None else of_stretches([(number, number) for number in new])
            found = outcome(of_stretches([(number, number) for number in boxes]), act, summaries)
            self.is_thing(found, wanted, (boxes, act))
            seen.add((act[0], found is None))
        self.assertEqual(seen, {("when", True)} | {(word, False) for word in WORDS[:-2]})

    def test_what_is_told_can_be_handed_in_again(self):
        told = over(2, {})
        for dice, n, other, act, summaries in self.each(56, 400, WORDS, (2,)):
            told = outcome(told, act, summaries) or over(2, {})
            self.assertTrue(is_told(told))

    def test_what_is_told_is_the_askers_own(self):
        things = (None, over(2, {(1, 0): 9, (0, 1): 0, (1, 2): 3}, [ALL, (2, 1)]), over(2, {}))
        for told, act in itertools.product(things, ACTS):
            check_own(self, outcome, copy.deepcopy(told), copy.deepcopy(act), [copy.deepcopy(NEXT)])


if __name__ == "__main__":
    unittest.main()
