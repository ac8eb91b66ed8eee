import itertools
import unittest

from kinds import check_own, is_whole
from makers import Maker
from seer.errors import NoStart
from seer.programs import well_made
from seer.runs import done, run

PICKS = (-10 ** 300, -7, -2, -1, 0, 1, 2, 7, 10 ** 300)
GREAT = 10 ** 300 - 1


class Done(unittest.TestCase):
    def tells(self, boxes, act, pick, wanted):
        told = done(boxes, act, pick)
        self.assertEqual(told, wanted, (boxes, act, pick))
        if wanted is not None:
            self.assertIs(type(told), list, (boxes, act, pick))
            self.assertTrue(all(is_whole(number) for number in told), (boxes, act, pick))

    def by_all_picks(self, boxes, act, wanted):
        for pick in PICKS:
            self.tells(boxes, act, pick, wanted)

    def test_go(self):
        self.by_all_picks([3, -4], ("go",), [3, -4])
        self.by_all_picks([0], ("go",), [0])

    def test_say_held_or_not(self):
        for claim in (("same", [0, 1]), ("same", [-5, 1]), ("under", [0, 1]), ("even", [0, 1], 2)):
            self.by_all_picks([5], ("say", claim), [5])
            self.by_all_picks([0], ("say", claim), [0])

    def test_set(self):
        self.by_all_picks([3, -4, 5], ("set", 1, [7, 0, 0, 0]), [7, -4, 5])
        self.by_all_picks([3, -4, 5], ("set", 2, [1, 2, 3, 4]), [3, 15, 5])
        self.by_all_picks([3, -4, 5], ("set", 3, [0, 0, 0, -2]), [3, -4, -10])

    def test_part_is_rounded_down(self):
        for x, parted in ((7, 2), (6, 2), (1, 0), (0, 0), (-1, -1), (-3, -1), (-4, -2), (-7, -3)):
            self.by_all_picks([x, 9], ("part", 2, [0, 1, 0], 3), [x, parted])
        self.by_all_picks([8, 9], ("part", 1, [-100, 1, 1], 1), [-83, 9])
        self.by_all_picks([8, 9], ("part", 1, [3, 2, -3], 5), [-2, 9])

    def test_rest_is_from_0_on(self):
        for x, rested in ((7, 1), (6, 0), (1, 1), (0, 0), (-1, 2), (-3, 0), (-4, 2), (-7, 2)):
            self.by_all_picks([x, 9], ("rest", 2, [0, 1, 0], 3), [x, rested])
        self.by_all_picks([8, 9], ("rest", 1, [-100, 1, 1], 1), [0, 9])
        self.by_all_picks([8, 9], ("rest", 1, [3, 2, -3], 5), [2, 9])

    def test_any_with_both_ends(self):
        for pick, wanted in ((0, 3), (1, 4), (2, 5), (3, 6), (4, 3), (9, 4), (-1, 6), (-3, 4), (-4, 3), (-5, 6)):
            self.tells([8, 9], ("any", 1, 3, 6), pick, [wanted, 9])
        for pick, wanted in ((0, -2), (1, -1), (2, 0), (3, 1), (4, -2), (-1, 1), (-6, 0)):
            self.tells([8, 9], ("any", 2, -2, 1), pick, [8, wanted])

    def test_any_with_one_number_alone(self):
        self.by_all_picks([8, 9], ("any", 2, 5, 5), [8, 5])
        self.by_all_picks([8, 9], ("any", 1, -5, -5), [-5, 9])

    def test_any_of_two_numbers(self):
        for pick, wanted in ((0, -1), (1, 0), (2, -1), (-1, 0), (-2, -1)):
            self.tells([8], ("any", 1, -1, 0), pick, [wanted])

    def test_any_with_lo_alone(self):
        for pick, wanted in ((0, 3), (1, 4), (5, 8), (-1, 4), (-5, 8)):
            self.tells([8, 9], ("any", 1, 3, None), pick, [wanted, 9])
        for pick, wanted in ((0, -3), (5, 2), (-5, 2)):
            self.tells([8, 9], ("any", 2, -3, None), pick, [8, wanted])
        self.tells([8, 9], ("any", 2, 0, None), -4, [8, 4])

    def test_any_with_hi_alone(self):
        for pick, wanted in ((0, 3), (1, 2), (5, -2), (-1, 2), (-5, -2)):
            self.tells([8, 9], ("any", 1, None, 3), pick, [wanted, 9])
        for pick, wanted in ((0, -3), (5, -8), (-5, -8)):
            self.tells([8, 9], ("any", 2, None, -3), pick, [8, wanted])
        self.tells([8, 9], ("any", 2, None, 0), -4, [8, -4])

    def test_any_with_no_end(self):
        for pick in PICKS:
            self.tells([8, 9], ("any", 1, None, None), pick, [pick, 9])
            self.tells([8, 9], ("any", 2, None, None), pick, [8, pick])

    def test_any_lays_a_number_of_its_stretch_and_each_by_some_pick(self):
        for lo, hi in ((-3, 4), (0, 6), (-9, -2), (5, 5)):
            laid = [done([0], ("any", 1, lo, hi), pick)[0] for pick in range(-20, 20)]
            self.assertEqual(sorted(set(laid)), list(range(lo, hi + 1)))

    def when(self, claim, held, not_held):
        for boxes in held:
            self.by_all_picks(boxes, ("when", claim, True), boxes)
            self.by_all_picks(boxes, ("when", claim, False), None)
        for boxes in not_held:
            self.by_all_picks(boxes, ("when", claim, False), boxes)
            self.by_all_picks(boxes, ("when", claim, True), None)

    def test_when_under(self):
        self.when(("under", [-3, 1, 2]), [[2, 0], [0, 1], [-50, 3]], [[3, 0], [1, 1], [0, 2], [100, 0]])

    def test_when_same(self):
        self.when(("same", [-3, 1, 2]), [[3, 0], [1, 1], [-1, 2]], [[2, 0], [4, 0], [0, 0], [0, 2]])

    def test_when_even(self):
        self.when(("even", [-3, 1, 2], 4), [[3, 0], [7, 0], [-1, 0], [1, 1]], [[4, 0], [5, 0], [2, 0], [0, 0]])
        self.when(("even", [5, 1], 1), [[0], [1], [-8]], [])

    def test_no_box_but_the_named_one_is_changed(self):
        boxes = [11, -12, 13, -14]
        for x in range(1, 5):
            for act in (("set", x, [5, 0, 0, 0, 0]), ("part", x, [11, 0, 0, 0, 0], 2),
                        ("rest", x, [11, 0, 0, 0, 0], 6), ("any", x, 5, None)):
                wanted = list(boxes)
                wanted[x - 1] = 5
                self.tells(boxes, act, 0, wanted)

    def test_many_figures(self):
        self.tells([GREAT], ("set", 1, [GREAT, GREAT]), 0, [GREAT * GREAT + GREAT])
        self.tells([-GREAT], ("part", 1, [0, 1], 10), 0, [-10 ** 299])
        self.tells([-GREAT], ("rest", 1, [0, 1], 10), 0, [1])
        self.tells([0], ("any", 1, -GREAT, GREAT), -1, [GREAT])
        self.tells([0], ("any", 1, -GREAT, None), -GREAT, [0])
        self.tells([0], ("any", 1, None, GREAT), -GREAT, [0])
        self.tells([GREAT], ("when", ("same", [-GREAT, 1]), True), 0, [GREAT])

    def test_what_is_told_is_a_list_of_its_own(self):
        for act in (("go",), ("say", ("same", [0, 1, 0])), ("when", ("same", [-3, 1, 0]), True),
                    ("when", ("same", [-3, 1, 0]), False), ("set", 1, [3, 0, 0]), ("part", 2, [0, 1, 1], 2),
                    ("rest", 2, [0, 1, 1], 2), ("any", 1, None, 5)):
            check_own(self, done, [3, 4], act, 2)


def size(body):
    """How many places a body has beyond the one where it begins."""
    found = 0
    for statement in body:
        if statement[0] == "if":
            found += 3 + size(statement[2]) + size(statement[3])
        elif statement[0] == "while":
            found += 3 + size(statement[2])
        else:
            found += 1
    return found


def number(one, boxes):
    return one[0] + sum(one[i + 1] * boxes[i] for i in range(len(boxes)))


def truth(claim, boxes):
    found = number(claim[1], boxes)
    if claim[0] == "even":
        return found % claim[2] == 0
    return found < 0 if claim[0] == "under" else found == 0


class ByTheBook:
    """Goes through bodies as they are written, without any rows."""

    def __init__(self, program, picks):
        self.program = program
        self.picks = iter(picks)

    def function(self, f, given):
        boxes = given + [0] * (self.program[f][1] - len(given))
        yield (f, 0, list(boxes))
        yield from self.body(f, self.program[f][2], 0, boxes)
        return boxes[-1]

    def body(self, f, body, place, boxes):
        for statement in body:
            if statement[0] == "if":
                yield from self.choice(f, statement, place, boxes)
            elif statement[0] == "while":
                yield from self.ring(f, statement, place, boxes)
            elif statement[0] == "call":
                given = [number(one, boxes) for one in statement[3]]
                boxes[statement[1] - 1] = yield from self.function(statement[2], given)
            else:
                self.plain(statement, boxes)
            place += size([statement])
            yield (f, place, list(boxes))

    def choice(self, f, statement, place, boxes):
        branch = statement[2]
        begin = place + 1
        if not truth(statement[1], boxes):
            branch = statement[3]
            begin = place + 2 + size(statement[2])
        yield (f, begin, list(boxes))
        yield from self.body(f, branch, begin, boxes)

    def ring(self, f, statement, place, boxes):
        yield (f, place + 1, list(boxes))
        while truth(statement[1], boxes):
            yield (f, place + 2, list(boxes))
            yield from self.body(f, statement[2], place + 2, boxes)
            yield (f, place + 1, list(boxes))

    def plain(self, statement, boxes):
        if statement[0] == "any":
            boxes[statement[1] - 1] = self.any(statement[2], statement[3], next(self.picks, 0))
        elif statement[0] != "say":
            found = number(statement[2], boxes)
            if statement[0] == "part":
                found = found // statement[3]
            if statement[0] == "rest":
                found = found % statement[3]
            boxes[statement[1] - 1] = found

    def any(self, lo, hi, pick):
        if lo is None:
            return pick if hi is None else hi - abs(pick)
        return lo + abs(pick) if hi is None else range(lo, hi + 1)[pick % (hi + 1 - lo)]


def by_the_book(program, start, picks, steps):
    walk = ByTheBook(program, picks).function(len(program) - 1, list(start))
    return list(itertools.islice(walk, steps + 1))


class Run(unittest.TestCase):
    def tells(self, program, start, picks, steps, wanted):
        well_made(program)
        told = run(program, start, picks, steps)
        self.assertEqual(told, wanted, (program, start, picks, steps))
        self.check_kinds(program, told)

    def check_kinds(self, program, told):
        self.assertIs(type(told), list)
        for moment in told:
            self.assertIs(type(moment), tuple)
            self.assertEqual(len(moment), 3)
            self.assertTrue(is_whole(moment[0]) and is_whole(moment[1]))
            self.assertIs(type(moment[2]), list)
            self.assertEqual(len(moment[2]), program[moment[0]][1])
            self.assertTrue(all(is_whole(held) for held in moment[2]))

    def main(self, params, many, body, start, picks, wanted):
        self.tells([(params, many, body)], start, picks, 300, [(0, place, boxes) for place, boxes in wanted])

    def test_a_body_without_statements(self):
        self.main(0, 1, [], [], [], [(0, [0])])
        self.main(2, 3, [], [5, -6], [1, 2], [(0, [5, -6, 0])])

    def test_the_start_lies_in_the_parameters_and_0_in_the_others(self):
        self.main(3, 3, [], [5, -6, 7], [], [(0, [5, -6, 7])])
        self.main(1, 4, [], [5], [], [(0, [5, 0, 0, 0])])
        self.main(0, 2, [], [], [], [(0, [0, 0])])

    def test_set(self):
        self.main(1, 2, [("set", 2, [3, 2, 0]), ("set", 1, [0, 0, -1])], [5], [],
                  [(0, [5, 0]), (1, [5, 13]), (2, [-13, 13])])

    def test_part_and_rest(self):
        self.main(1, 2, [("part", 2, [0, 1, 0], 4), ("rest", 1, [0, 1, 0], 4)], [-7], [],
                  [(0, [-7, 0]), (1, [-7, -2]), (2, [1, -2])])

    def test_any(self):
        self.main(0, 2, [("any", 1, 2, 4), ("any", 2, None, 4), ("any", 1, 4, None), ("any", 2, None, None)], [],
                  [5, -6, -7, -8], [(0, [0, 0]), (1, [4, 0]), (2, [4, -2]), (3, [11, -2]), (4, [11, -8])])

    def test_say_held_or_not(self):
        self.main(1, 1, [("say", ("same", [0, 1])), ("say", ("same", [-5, 1]))], [5], [],
                  [(0, [5]), (1, [5]), (2, [5])])

    def test_if(self):
        body = [("if", ("under", [0, 1]), [("set", 1, [1, 1])], [("set", 1, [-1, 1])])]
        self.main(1, 1, body, [-3], [], [(0, [-3]), (1, [-3]), (2, [-2]), (5, [-2])])
        self.main(1, 1, body, [0], [], [(0, [0]), (3, [0]), (4, [-1]), (5, [-1])])

    def test_if_with_empty_bodies(self):
        body = [("if", ("even", [0, 1], 2), [], [])]
        self.main(1, 1, body, [4], [], [(0, [4]), (1, [4]), (3, [4])])
        self.main(1, 1, body, [5], [], [(0, [5]), (2, [5]), (3, [5])])

    def test_while(self):
        body = [("while", ("under", [-2, 1]), [("set", 1, [1, 1])]), ("say", ("same", [-2, 1]))]
        self.main(1, 1, body, [0], [], [
            (0, [0]), (1, [0]), (2, [0]), (3, [1]), (1, [1]), (2, [1]), (3, [2]), (1, [2]), (4, [2]), (5, [2])])
        self.main(1, 1, body, [2], [], [(0, [2]), (1, [2]), (4, [2]), (5, [2])])

    def test_while_that_never_ends(self):
        program = [(0, 1, [("while", ("same", [0, 0]), [])])]
        ring = [(0, 1, [0]), (0, 2, [0])]
        for steps in (0, 1, 2, 3, 7, 300):
            self.tells(program, [], [], steps, ([(0, 0, [0])] + ring * 150)[:steps + 1])

    def test_a_body_within_a_body(self):
        body = [("while", ("under", [-1, 1, 0]), [
            ("if", ("same", [0, 1, 0]), [("while", ("under", [-1, 0, 1]), [("set", 2, [1, 0, 1])])], []),
            ("set", 1, [1, 1, 0])])]
        self.main(0, 2, body, [], [], [
            (0, [0, 0]), (1, [0, 0]), (2, [0, 0]), (3, [0, 0]), (4, [0, 0]), (5, [0, 0]), (6, [0, 1]), (4, [0, 1]),
            (7, [0, 1]), (9, [0, 1]), (10, [1, 1]), (1, [1, 1]), (11, [1, 1])])

    def test_the_other_body_within_a_body(self):
        body = [("if", ("same", [0, 1]), [("set", 1, [0, 0])], [("if", ("under", [0, 1]), [], [("set", 1, [7, 0])])])]
        self.main(1, 1, body, [5], [], [(0, [5]), (3, [5]), (5, [5]), (6, [7]), (7, [7]), (8, [7])])

    def test_call(self):
        twice = (1, 2, [("set", 2, [0, 2, 0])])
        self.tells([twice, (1, 2, [("call", 2, 0, [[1, 1, 0]]), ("set", 1, [0, 0, 1])])], [5], [], 300, [
            (1, 0, [5, 0]), (0, 0, [6, 0]), (0, 1, [6, 12]), (1, 1, [5, 12]), (1, 2, [12, 12])])

    def test_call_answers_what_the_last_box_holds(self):
        function = (2, 4, [("set", 3, [7, 0, 0, 0, 0]), ("set", 4, [0, 1, -1, 1, 0])])
        self.tells([function, (3, 3, [("call", 1, 0, [[0, 0, 1, 0], [0, 0, 0, 1]])])], [1, 20, 3], [], 300, [
            (1, 0, [1, 20, 3]), (0, 0, [20, 3, 0, 0]), (0, 1, [20, 3, 7, 0]), (0, 2, [20, 3, 7, 24]),
            (1, 1, [24, 20, 3])])

    def test_call_of_a_function_that_has_parameters_alone(self):
        self.tells([(2, 2, []), (2, 2, [("call", 2, 0, [[0, 0, 1], [0, 1, 0]])])], [4, 9], [], 300, [
            (1, 0, [4, 9]), (0, 0, [9, 4]), (1, 1, [4, 4])])

    def test_call_without_arguments(self):
        self.tells([(0, 1, []), (1, 1, [("call", 1, 0, [])])], [4], [], 300, [(1, 0, [4]), (0, 0, [0]), (1, 1, [0])])

    def test_the_boxes_of_a_called_function_begin_anew(self):
        add = (0, 1, [("set", 1, [1, 1])])
        self.tells([add, (0, 1, [("call", 1, 0, []), ("call", 1, 0, [])])], [], [], 300, [
            (1, 0, [0]), (0, 0, [0]), (0, 1, [1]), (1, 1, [1]), (0, 0, [0]), (0, 1, [1]), (1, 2, [1])])

    def test_calls_within_calls(self):
        first = (1, 2, [("set", 2, [1, 1, 0])])
        second = (1, 2, [("call", 2, 0, [[10, 1, 0]]), ("call", 2, 0, [[0, 0, 1]])])
        third = (1, 1, [("call", 1, 1, [[100, 1]])])
        self.tells([first, second, third], [5], [], 300, [
            (2, 0, [5]), (1, 0, [105, 0]), (0, 0, [115, 0]), (0, 1, [115, 116]), (1, 1, [105, 116]),
            (0, 0, [116, 0]), (0, 1, [116, 117]), (1, 2, [105, 117]), (2, 1, [117])])

    def test_calls_through_five_functions(self):
        program = [(1, 2, [("set", 2, [1, 1, 0])])]
        for f in range(4):
            program.append((1, 2, [("call", 2, f, [[0, 2, 0]])]))
        self.tells(program, [1], [], 300, [
            (4, 0, [1, 0]), (3, 0, [2, 0]), (2, 0, [4, 0]), (1, 0, [8, 0]), (0, 0, [16, 0]), (0, 1, [16, 17]),
            (1, 1, [8, 17]), (2, 1, [4, 17]), (3, 1, [2, 17]), (4, 1, [1, 17])])

    def test_calls_within_bodies_on_both_sides(self):
        count = (1, 2, [("while", ("under", [0, -1, 1]), [("set", 2, [1, 0, 1])])])
        main = (1, 1, [("if", ("under", [0, 1]), [], [("call", 1, 0, [[0, 1]])])])
        self.tells([count, main], [1], [], 300, [
            (1, 0, [1]), (1, 2, [1]), (0, 0, [1, 0]), (0, 1, [1, 0]), (0, 2, [1, 0]), (0, 3, [1, 1]), (0, 1, [1, 1]),
            (0, 4, [1, 1]), (1, 3, [1]), (1, 4, [1])])

    def test_a_call_as_the_last_statement_of_a_called_function(self):
        program = [(0, 1, [("set", 1, [3, 0])]), (0, 1, [("call", 1, 0, [])]), (0, 1, [("call", 1, 1, [])])]
        self.tells(program, [], [], 300, [
            (2, 0, [0]), (1, 0, [0]), (0, 0, [0]), (0, 1, [3]), (1, 1, [3]), (2, 1, [3])])

    def test_functions_that_are_not_called_are_not_run(self):
        self.tells([(0, 1, [("set", 1, [3, 0])]), (0, 1, [])], [], [], 300, [(1, 0, [0])])

    def test_all_eight_words_in_one_run(self):
        half = (1, 2, [("part", 2, [0, 1, 0], 2)])
        main = (1, 2, [
            ("set", 2, [1, 2, 0]), ("any", 1, 0, 3), ("say", ("same", [0, 0, 1])), ("call", 2, 0, [[0, 0, 1]]),
            ("while", ("under", [0, 0, 1]), [("if", ("even", [0, 0, 1], 2), [], [("set", 2, [1, 0, 1])]),
                                             ("set", 2, [2, 0, 1])]),
            ("rest", 1, [-1, 0, -1], 3)])
        self.tells([half, main], [-3], [-1], 300, [
            (1, 0, [-3, 0]), (1, 1, [-3, -5]), (1, 2, [3, -5]), (1, 3, [3, -5]),
            (0, 0, [-5, 0]), (0, 1, [-5, -3]), (1, 4, [3, -3]),
            (1, 5, [3, -3]), (1, 6, [3, -3]), (1, 8, [3, -3]), (1, 9, [3, -2]), (1, 10, [3, -2]), (1, 11, [3, 0]),
            (1, 5, [3, 0]), (1, 12, [3, 0]), (1, 13, [2, 0])])

    def test_picks_are_used_in_order_by_any_rows_alone(self):
        draw = (0, 1, [("any", 1, None, None)])
        main = (0, 2, [
            ("set", 2, [1, 0, 0]), ("any", 1, None, None), ("say", ("same", [0, 0, 0])), ("call", 2, 0, []),
            ("if", ("same", [0, 0, 0]), [], [("any", 1, None, None)]), ("any", 1, 0, 9)])
        told = run([draw, main], [], [11, 22, 33, 44], 300)
        self.assertEqual([moment[2] for moment in told], [
            [0, 0], [0, 1], [11, 1], [11, 1], [0], [22], [11, 22], [11, 22], [11, 22], [3, 22]])

    def test_picks_that_are_used_up(self):
        body = [("any", 1, None, None), ("any", 1, 3, 6), ("any", 1, 5, None), ("any", 1, None, 7)]
        self.main(1, 1, body, [9], [], [(0, [9]), (1, [0]), (2, [3]), (3, [5]), (4, [7])])
        self.main(1, 1, body, [9], [8], [(0, [9]), (1, [8]), (2, [3]), (3, [5]), (4, [7])])
        self.main(1, 1, body, [9], [8, 1], [(0, [9]), (1, [8]), (2, [4]), (3, [5]), (4, [7])])
        self.main(1, 1, body, [9], [8, 1, 1], [(0, [9]), (1, [8]), (2, [4]), (3, [6]), (4, [7])])
        self.main(1, 1, body, [9], [8, 1, 1, 1], [(0, [9]), (1, [8]), (2, [4]), (3, [6]), (4, [6])])
        self.main(1, 1, body, [9], [8, 1, 1, 1, 1], [(0, [9]), (1, [8]), (2, [4]), (3, [6]), (4, [6])])

    def test_picks_in_a_ring(self):
        body = [("while", ("under", [-2, 0, 1]), [("any", 1, None, None), ("set", 2, [1, 0, 1])])]
        told = run([(0, 2, body)], [], [7, 8, 9], 300)
        self.assertEqual([moment[2] for moment in told if moment[1] == 3], [[7, 0], [8, 1]])

    def test_numbers_grow_beyond_300_figures(self):
        square = (0, 1, [("while", ("same", [0, 0]), [("set", 1, [1, 10 ** 9])])])
        told = run([square], [], [], 300)
        self.assertEqual(told[-1][2], [int("1" + "000000001" * 99)])

    def test_many_figures(self):
        self.main(1, 1, [("set", 1, [10 ** 100, -10 ** 9])], [GREAT], [],
                  [(0, [GREAT]), (1, [10 ** 100 - GREAT * 10 ** 9])])


class Steps(unittest.TestCase):
    def program(self):
        inner = (1, 2, [("set", 2, [1, 1, 0]), ("set", 2, [0, 0, 2])])
        outer = (1, 2, [("call", 2, 0, [[0, 1, 0]]), ("set", 2, [5, 0, 1])])
        return [inner, outer, (1, 1, [("call", 1, 1, [[0, 1]]), ("set", 1, [0, -1])])]

    def test_each_number_of_steps(self):
        whole = [(2, 0, [3]), (1, 0, [3, 0]), (0, 0, [3, 0]), (0, 1, [3, 4]), (0, 2, [3, 8]), (1, 1, [3, 8]),
                 (1, 2, [3, 13]), (2, 1, [13]), (2, 2, [-13])]
        for steps in range(12):
            self.assertEqual(run(self.program(), [3], [], steps), whole[:steps + 1], steps)
        self.assertEqual(run(self.program(), [3], [], 300), whole)

    def test_no_step(self):
        self.assertEqual(run(self.program(), [3], [1, 2], 0), [(2, 0, [3])])
        self.assertEqual(run([(0, 1, [])], [], [], 0), [(0, 0, [0])])

    def test_as_many_moments_as_steps_and_one(self):
        program = [(0, 1, [("while", ("same", [0, 0]), [("set", 1, [1, 1])])])]
        for steps in (0, 1, 2, 10, 299, 300, 1000):
            self.assertEqual(len(run(program, [], [], steps)), steps + 1)


class NoStarts(unittest.TestCase):
    def refused(self, program, start):
        for steps in (0, 1, 300):
            with self.assertRaises(NoStart):
                run(program, start, [], steps)

    def test_one_number_more_and_one_fewer(self):
        for params in range(5):
            program = [(params, 4 if params < 4 else 5, [])]
            self.refused(program, [1] * (params + 1))
            if params > 0:
                self.refused(program, [1] * (params - 1))
            self.assertEqual(len(run(program, [1] * params, [], 5)), 1)

    def test_as_many_as_boxes_are_too_many(self):
        self.refused([(1, 3, [])], [1, 2, 3])
        self.refused([(0, 1, [])], [0])

    def test_the_main_one_is_the_last_one(self):
        program = [(2, 2, []), (1, 2, []), (0, 1, [])]
        self.refused(program, [1, 2])
        self.refused(program, [1])
        self.assertEqual(run(program, [], [], 3), [(2, 0, [0])])
        self.refused([(0, 1, []), (2, 2, [])], [])
        self.assertEqual(run([(0, 1, []), (2, 2, [])], [1, 2], [], 3), [(1, 0, [1, 2])])

    def test_it_is_refused_whatever_was_run_ahead_and_is_run_behind(self):
        program = [(1, 1, [("set", 1, [1, 1])])]
        run(program, [1], [], 3)
        self.refused(program, [])
        self.assertEqual(run(program, [1], [], 3), [(0, 0, [1]), (0, 1, [2])])


class ByManyPrograms(unittest.TestCase):
    def each(self):
        for seed in range(400):
            maker = Maker(seed)
            program = maker.program()
            well_made(program)
            start = [maker.dice.throw(9) - 4 for box in range(program[-1][0])]
            picks = [maker.dice.throw(21) - 10 for pick in range(maker.dice.throw(6))]
            yield program, start, picks

    def test_the_runs_are_those_of_the_bodies_as_written(self):
        cut_off = set()
        functions = set()
        for program, start, picks in self.each():
            told = run(program, start, picks, 120)
            self.assertEqual(told, by_the_book(program, start, picks, 120), (program, start, picks))
            cut_off.add(len(told) == 121)
            functions.add(len({moment[0] for moment in told}))
        # The programs are worth something only where they differ enough.
        self.assertEqual(cut_off, {True, False})
        self.assertEqual(functions, {1, 2, 3, 4})

    def test_a_run_of_fewer_steps_is_the_beginning_of_the_longer_one(self):
        for program, start, picks in self.each():
            told = run(program, start, picks, 60)
            for steps in (0, 1, 2, 3, 5, 8, 13, 21, 34, 59):
                self.assertEqual(run(program, start, picks, steps), told[:steps + 1], (program, start, picks, steps))

    def test_what_is_told_is_the_askers_own(self):
        for program, start, picks in itertools.islice(self.each(), 60):
            check_own(self, run, program, start, picks, 25)


if __name__ == "__main__":
    unittest.main()
