import copy
import itertools
import unittest

from seer.errors import FixedBox, NoBox, NoCall, NoShape, NoStep, NoStretch, NoSum, SeerError
from seer.programs import well_made

GREAT = 10 ** 100

# A program of two called functions and a main one with each of the eight
# words in it. Each spot below can be spoilt by itself; they stand in the
# order in which they are to be met.
SPOTS = [
    ("shape 0", NoShape),
    ("set x", NoBox), ("set S", NoSum),
    ("fixed x", FixedBox), ("fixed S", NoSum),
    ("shape 1", NoShape),
    ("part x", NoBox), ("part S", NoSum), ("part d", NoStep),
    ("rest x", FixedBox), ("rest S", NoSum), ("rest d", NoStep),
    ("inner f", NoCall),
    ("shape 2", NoShape),
    ("any x", NoBox), ("any ends", NoStretch),
    ("call x", NoBox), ("call f", NoCall), ("call count", NoCall), ("call first", NoSum), ("call second", NoSum),
    ("say S", NoSum), ("say d", NoStep),
    ("if S", NoSum), ("if d", NoStep),
    ("then x", NoBox), ("then d", NoStep),
    ("while S", NoSum),
    ("loop x", NoBox), ("loop ends", NoStretch), ("loop say S", NoSum),
    ("behind loop x", NoBox),
    ("other x", NoBox), ("other f", NoCall),
    ("behind x", NoBox), ("behind S", NoSum),
]


def spoilt(*bad):
    def pick(spot, good, worse):
        assert spot in dict(SPOTS), spot
        return worse if spot in bad else good

    def row_of_call():
        row = [pick("call first", [1, 0, 0], [1, 0]), pick("call second", [0, 0, 1], [0, 0, 0, 1])]
        return pick("call count", row, row + [[0, 0, 0]])

    first = (2, pick("shape 0", 3, 1), [
        ("set", pick("set x", 3, 4), pick("set S", [0, 1, 1, 0], [0, 1, 1])),
        ("set", pick("fixed x", 3, 1), pick("fixed S", [0, 1, 1, 0], [])),
    ])
    second = (pick("shape 1", 1, -1), 2, [
        ("part", pick("part x", 2, 0), pick("part S", [0, 1, 0], [0]), pick("part d", 1, 0)),
        ("rest", pick("rest x", 2, 1), pick("rest S", [0, 1, 0], [0, 1, 0, 0]), pick("rest d", 7, -1)),
        ("call", 2, pick("inner f", 0, 1), [[0, 1, 0], [1, 0, 0]]),
    ])
    main = (pick("shape 2", 2, 3), 2, [
        ("any", pick("any x", 1, -1), pick("any ends", 0, 10), 9),
        ("call", pick("call x", 2, 3), pick("call f", 0, 2), row_of_call()),
        ("say", ("even", pick("say S", [0, 1, 0], [0, 1]), pick("say d", 2, 0))),
        ("if", ("even", pick("if S", [0, 1, 0], []), pick("if d", 3, -3)), [
            ("part", pick("then x", 1, 0), [0, 0, 0], pick("then d", 1, 0)),
            ("while", ("under", pick("while S", [0, 1, 0], [1])), [
                ("any", pick("loop x", 2, 3), None, None),
                ("any", 2, pick("loop ends", None, 1), 0),
                ("say", ("same", pick("loop say S", [0, 1, 0], [0]))),
            ]),
            ("set", pick("behind loop x", 2, 3), [0, 0, 0]),
        ], [
            ("set", pick("other x", 1, 9), [0, 0, 0]),
            ("call", 1, pick("other f", 1, -1), [[0, 0, 0]]),
        ]),
        ("set", pick("behind x", 1, 0), pick("behind S", [0, 0, 0], [0, 0, 0, 0])),
    ])
    return [first, second, main]


class Case(unittest.TestCase):
    def fine(self, program):
        self.assertIs(well_made(program), True, program)

    def refused(self, program, refusal, asked=None):
        with self.assertRaises(SeerError, msg=asked) as taken:
            well_made(program)
        self.assertIs(type(taken.exception), refusal, asked or program)

    def fine_main(self, many, body):
        self.fine([(0, many, body)])

    def refused_main(self, many, body, refusal):
        self.refused([(0, many, body)], refusal)


class WellMade(Case):
    def test_the_least_one(self):
        self.fine([(0, 1, [])])
        self.fine([(1, 1, [])])

    def test_all_words(self):
        self.fine(spoilt())

    def test_each_word_by_itself(self):
        for statement in [
            ("set", 1, [1, -2, 0]), ("set", 2, [GREAT, 0, 0]), ("part", 1, [0, 1, 1], 1), ("part", 2, [0, 1, 1], GREAT),
            ("rest", 1, [0, 1, 1], 1), ("rest", 2, [0, 1, 1], 9), ("say", ("under", [0, 1, 1])),
            ("say", ("same", [0, 1, 1])), ("say", ("even", [0, 1, 1], 1)), ("if", ("under", [0, 1, 1]), [], []),
            ("if", ("even", [0, 1, 1], 2), [("set", 1, [0, 0, 0])], []), ("while", ("same", [0, 1, 1]), []),
        ]:
            self.fine_main(2, [statement])

    def test_any_by_all_kinds_of_ends(self):
        for lo, hi in [(0, 0), (-5, 5), (-GREAT, GREAT), (None, 3), (3, None), (None, None)]:
            self.fine_main(2, [("any", 1, lo, hi)])

    def test_calls_of_functions_ahead(self):
        none = (0, 1, [])
        two = (2, 2, [])
        self.fine([none, (0, 1, [("call", 1, 0, [])])])
        self.fine([two, none, (0, 1, [("call", 1, 0, [[0, 1], [1, 0]]), ("call", 1, 1, [])])])

    def test_as_many_as_the_bounds_allow_and_somewhat_beyond(self):
        inner = []
        for depth in range(12):
            inner = [("while", ("under", [0, 1, 0, 0, 0]), inner), ("if", ("same", [0, 1, 0, 0, 0]), [], inner)]
            if depth > 4:
                inner = inner[1:]
        self.fine([(4, 4, [])] * 6 + [(0, 4, inner + [("set", 4, [0, 0, 0, 0, 0])] * 60)])


class NoFunction(Case):
    def test_no_function_at_all(self):
        self.refused([], NoShape)


class Shape(Case):
    def test_many_below_one(self):
        for many in (0, -1, -GREAT):
            self.refused([(0, many, [])], NoShape)
            self.refused([(many, many, [])], NoShape)

    def test_params(self):
        self.refused([(-1, 1, [])], NoShape)
        self.refused([(2, 1, [])], NoShape)
        self.refused([(5, 4, [])], NoShape)
        self.fine([(0, 4, [])])
        self.fine([(4, 4, [])])

    def test_of_each_function(self):
        for place in range(3):
            program = [(0, 1, []), (0, 1, []), (0, 1, [])]
            program[place] = (0, 0, [])
            self.refused(program, NoShape)

    def test_ahead_of_its_statements(self):
        self.refused([(0, 0, [("set", 1, [0, 0])])], NoShape)
        self.refused([(3, 2, [("set", 9, [0])])], NoShape)


class Box(Case):
    def test_not_among_the_boxes(self):
        for x in (-1, 0, 3, 4, GREAT, -GREAT):
            for statement in [("set", x, [0, 0, 0]), ("part", x, [0, 0, 0], 1), ("rest", x, [0, 0, 0], 1),
                              ("any", x, 0, 1)]:
                self.refused_main(2, [statement], NoBox)
            self.refused([(0, 1, []), (0, 2, [("call", x, 0, [])])], NoBox)

    def test_parameters_of_the_main_one_may_be_laid_into(self):
        for x in (1, 2, 3):
            for statement in [("set", x, [0, 0, 0, 0]), ("part", x, [0, 0, 0, 0], 1), ("rest", x, [0, 0, 0, 0], 1),
                              ("any", x, 0, 1), ("call", x, 0, [])]:
                self.fine([(0, 1, []), (2, 3, [statement])])

    def test_parameters_of_the_others_not(self):
        for x, refusal in [(0, NoBox), (1, FixedBox), (2, FixedBox), (3, None), (4, NoBox)]:
            for statement in [("set", x, [0, 0, 0, 0]), ("part", x, [0, 0, 0, 0], 1), ("rest", x, [0, 0, 0, 0], 1),
                              ("any", x, 0, 1), ("call", x, 0, [])]:
                program = [(0, 1, []), (2, 3, [statement]), (0, 1, [])]
                if refusal is None:
                    self.fine(program)
                else:
                    self.refused(program, refusal)

    def test_parameters_within_other_statements_too(self):
        claim = ("same", [0, 0, 0])
        statement = ("set", 1, [0, 0, 0])
        for outer in [("if", claim, [statement], []), ("if", claim, [], [statement]), ("while", claim, [statement])]:
            self.refused([(1, 2, [outer]), (0, 1, [])], FixedBox)
            self.fine([(0, 1, []), (1, 2, [outer])])

    def test_where_all_boxes_are_parameters(self):
        self.refused([(2, 2, [("set", 2, [0, 0, 0])]), (0, 1, [])], FixedBox)
        self.fine([(2, 2, [("set", 2, [0, 0, 0])])])


class Sum(Case):
    def test_not_as_many_numbers_as_boxes_and_one(self):
        for one in ([], [0], [0, 1], [0, 1, 2, 3], [0] * 9):
            for statement in [
                ("set", 1, one), ("part", 1, one, 2), ("rest", 1, one, 2), ("say", ("under", one)),
                ("say", ("same", one)), ("say", ("even", one, 2)), ("if", ("under", one), [], []),
                ("if", ("even", one, 2), [], []), ("while", ("same", one), []),
            ]:
                self.refused_main(2, [statement], NoSum)

    def test_of_each_argument(self):
        good = [0, 1, 2]
        for one in ([], [0, 1], [0, 1, 2, 3]):
            for row in ([one, good], [good, one], [one, one]):
                self.refused([(2, 2, []), (0, 2, [("call", 1, 0, row)])], NoSum)

    def test_arguments_go_over_the_boxes_of_the_calling_one(self):
        self.fine([(1, 3, []), (0, 1, [("call", 1, 0, [[5, 1]])])])
        self.refused([(1, 3, []), (0, 1, [("call", 1, 0, [[5, 1, 0, 0]])])], NoSum)


class Step(Case):
    def test_below_one(self):
        for d in (0, -1, -GREAT):
            for statement in [
                ("part", 1, [0, 0], d), ("rest", 1, [0, 0], d), ("say", ("even", [0, 0], d)),
                ("if", ("even", [0, 0], d), [], []), ("while", ("even", [0, 0], d), []),
            ]:
                self.refused_main(1, [statement], NoStep)


class Stretch(Case):
    def test_lo_above_hi(self):
        for lo, hi in [(1, 0), (0, -1), (GREAT, -GREAT)]:
            self.refused_main(1, [("any", 1, lo, hi)], NoStretch)


class Call(Case):
    def test_not_among_the_functions_ahead(self):
        for f in (-1, 1, 2, 3, GREAT, -2):
            self.refused([(0, 1, []), (0, 1, [("call", 1, f, [])]), (0, 1, [])], NoCall)
        for f in (-1, 2, 3):
            self.refused([(0, 1, []), (0, 1, []), (0, 1, [("call", 1, f, [])])], NoCall)
        self.refused([(0, 1, [("call", 1, 0, [])])], NoCall)
        self.refused([(0, 1, [("call", 1, -1, [])])], NoCall)

    def test_not_as_many_arguments_as_parameters(self):
        functions = [(0, 1, []), (1, 1, []), (2, 2, [])]
        for f, count in itertools.product(range(3), range(4)):
            program = functions + [(0, 1, [("call", 1, f, [[0, 0]] * count)])]
            if f == count:
                self.fine(program)
            else:
                self.refused(program, NoCall)


class InOrder(Case):
    def test_each_spot_by_itself(self):
        for spot, refusal in SPOTS:
            self.refused(spoilt(spot), refusal, spot)

    def test_of_each_two_the_first_one_counts(self):
        for (ahead, refusal), (behind, other) in itertools.combinations(SPOTS, 2):
            self.refused(spoilt(ahead, behind), refusal, (ahead, behind))

    def test_of_all_from_each_spot_on_the_first_one_counts(self):
        for place, (spot, refusal) in enumerate(SPOTS):
            self.refused(spoilt(*[name for name, other in SPOTS[place:]]), refusal, spot)

    def test_two_statements_in_either_order(self):
        wrong = [
            (("set", 9, [0, 0]), NoBox), (("set", 2, [0]), NoSum), (("part", 2, [0, 0, 0], 0), NoStep),
            (("any", 2, 1, 0), NoStretch), (("call", 2, 5, []), NoCall), (("set", 1, [0, 0, 0]), FixedBox),
        ]
        for (ahead, refusal), (behind, other) in itertools.permutations(wrong, 2):
            self.refused([(1, 2, [ahead, behind]), (0, 1, [])], refusal)
            self.refused([(1, 2, [ahead]), (0, 1, [behind])], refusal)
            claim = ("same", [0, 0, 0])
            self.refused([(1, 2, [("if", claim, [ahead], [behind])]), (0, 1, [])], refusal)
            self.refused([(1, 2, [("if", claim, [], [ahead]), behind]), (0, 1, [])], refusal)
            self.refused([(1, 2, [("while", claim, [ahead]), behind]), (0, 1, [])], refusal)

    def test_a_statement_ahead_of_those_within_it(self):
        within = ("set", 9, [0, 0])
        self.refused_main(1, [("if", ("even", [0, 0], 0), [within], [])], NoStep)
        self.refused_main(1, [("if", ("same", [0]), [], [within])], NoSum)
        self.refused_main(1, [("while", ("even", [0, 0], 0), [within])], NoStep)

    def test_within_a_claim_the_sum_ahead_of_d(self):
        self.refused_main(1, [("say", ("even", [0], 0))], NoSum)
        self.refused_main(1, [("while", ("even", [0], 0), [])], NoSum)

    def test_within_a_call(self):
        function = (1, 1, [])
        self.refused([function, (0, 1, [("call", 0, 7, [])])], NoBox)
        self.refused([function, (0, 1, [("call", 1, 7, [[0]])])], NoCall)
        self.refused([function, (0, 1, [("call", 1, 0, [[0], [0]])])], NoCall)
        self.refused([function, (0, 1, [("call", 1, 0, [[0]])])], NoSum)
        self.refused([(1, 2, [("call", 1, 7, [])]), (0, 1, [])], FixedBox)

    def test_a_function_ahead_of_the_shape_of_the_next(self):
        self.refused([(0, 1, [("set", 2, [0, 0])]), (0, 0, [])], NoBox)
        self.refused([(0, 0, []), (0, 1, [("set", 2, [0, 0])])], NoShape)


class HandedIn(Case):
    def test_nothing_is_changed_and_asked_again_it_is_the_same(self):
        program = spoilt()
        as_it_was = copy.deepcopy(program)
        self.fine(program)
        self.fine(program)
        self.assertEqual(program, as_it_was)

    def test_nothing_is_changed_by_a_refusal(self):
        for spot, refusal in SPOTS:
            program = spoilt(spot)
            as_it_was = copy.deepcopy(program)
            self.refused(program, refusal, spot)
            self.refused(program, refusal, spot)
            self.assertEqual(program, as_it_was)

    def test_mended_it_is_well_made(self):
        program = [(0, 1, [("set", 1, [0])])]
        self.refused(program, NoSum)
        program[0][2][0][2].append(3)
        self.fine(program)
        program[0][2].append(("set", 2, [0, 0]))
        self.refused(program, NoBox)


if __name__ == "__main__":
    unittest.main()
