"""The names and arguments of the interface, as the document has them."""

import importlib
import inspect
import unittest

FUNCTIONS = {
    "wholes": ["divisor(one, other)"],
    "stretches": [
        "stretch(lo, hi)", "stretch_has(one, number)", "stretch_inside(one, other)", "stretch_joined(one, other)",
        "stretch_plus(one, other)", "stretch_times(one, k)", "stretch_parted(one, k)", "stretch_rested(one, k)",
        "stretch_met(one, other)",
    ],
    "rests": [
        "rest(m, r)", "rest_has(one, number)", "rest_inside(one, other)", "rest_joined(one, other)",
        "rest_plus(one, other)", "rest_times(one, k)", "rest_parted(one, k)", "rest_rested(one, k)",
        "rest_loosened(one, k)", "rest_met(one, other)", "rest_under(one, top)",
    ],
    "sums": [
        "value(one, boxes)", "box_sum(i, n)", "sum_plus(one, other)", "sum_times(one, k)",
        "sum_stretch(one, stretches)", "sum_rest(one, rests)", "holds(claim, boxes)",
    ],
    "programs": ["well_made(program)"],
    "rows": ["rows_of(body)", "last_place(rows)"],
    "runs": ["done(boxes, act, pick)", "run(program, start, picks, steps)"],
    "grids": ["closed(bounds)"],
    "tolds": [
        "told_has(told, boxes)", "told_inside(one, other)", "told_joined(one, other)", "sharp(told)",
        "grown(old, new, marks)", "of_stretches(some)", "stretches_of(told)",
    ],
    "acts": ["greatest(told, one)", "least(told, one)", "recast(told, sums)", "anew(told, x, span, left)"],
    "whens": ["at_most(told, one, top)", "when(told, claim, truth)"],
    "calls": [
        "widened(told, more)", "laid_in(told, at, other)", "argued(told, row, many)",
        "answered(told, x, row, summary)",
    ],
    "outcomes": ["outcome(told, act, summaries)"],
    "rings": [
        "heads(rows)", "stands(rows, entry, summaries, table)", "settle(rows, entry, summaries, way)",
    ],
    "looks": ["look(program, starts, way)"],
    "tellers": ["sayings(program)", "words(program, seen)", "trail(program, seen, function, place)"],
    "searches": [
        "tried(one, marks)", "breaks(program, start, picks, steps, function, place)",
        "breaker(program, starts, marks, picks, steps, most, function, place)",
        "tell(program, starts, way, picks, steps, most)",
    ],
}


class Interface(unittest.TestCase):
    def test_functions_and_their_arguments(self):
        for name, functions in FUNCTIONS.items():
            module = importlib.import_module("seer." + name)
            for wanted in functions:
                function = getattr(module, wanted.partition("(")[0])
                self.assertEqual(function.__name__ + str(inspect.signature(function)), wanted)
                self.assertEqual(function.__module__, "seer." + name)


if __name__ == "__main__":
    unittest.main()
