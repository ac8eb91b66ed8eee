"""What is promised over whole programs, by runs from many starts."""

import itertools
import unittest

import book_looks as book
from kinds import Dice
from makers import Great, Maker, Ringer
from seer.calls import argued
from seer.looks import look
from seer.outcomes import outcome
from seer.rings import stands
from seer.rows import last_place, rows_of
from seer.runs import run
from seer.searches import breaks, tell
from seer.stretches import stretch_inside
from seer.sums import holds, value
from seer.tellers import sayings, words
from seer.tolds import of_stretches, told_has, told_inside
from things import boxes_of

SPANS = ((-3, 8), (0, 0), (4, 4), (0, None), (None, 5), (None, None), (-40, 40))


def some_way(dice):
    return (dice.throw(5), [dice.throw(61) - 30 for k in range(dice.throw(5))], dice.throw(4))


def number_of(dice, span):
    """A number of the stretch, an end of it or not."""
    lo, hi = span
    if lo is None and hi is None:
        return dice.throw(101) - 50
    if lo is None:
        return hi - dice.throw(4) * dice.throw(20)
    if hi is None:
        return lo + dice.throw(4) * dice.throw(20)
    return lo + dice.throw(hi - lo + 1)


def some_runs(dice, program, starts, many):
    for turn in range(many):
        start = [number_of(dice, span) for span in starts]
        picks = [dice.throw(41) - 20 for pick in range(dice.throw(12))]
        yield start, picks, run(program, start, picks, dice.choice((300, 300, 40)))


def some_looks(seeds, makers=(Ringer, Great, Ringer, Maker)):
    for seed in seeds:
        maker = makers[seed % len(makers)](seed)
        program = maker.program()
        starts = [maker.dice.choice(SPANS) for box in range(program[-1][0])]
        way = some_way(maker.dice)
        yield maker.dice, program, starts, way, look(program, starts, way)


def all_inside(tables, others):
    return all(told_inside(one, other) for table, wider in zip(tables, others) for one, other in zip(table, wider))


class Promise(unittest.TestCase):
    def test_each_moment_of_a_run_lies_in_what_is_told_at_its_place(self):
        places = set()
        called = set()
        for dice, program, starts, way, (wide, summaries, held, grew) in some_looks(range(1000, 1150)):
            for start, picks, moments in some_runs(dice, program, starts, 8):
                for function, place, boxes in moments:
                    asked = (program, starts, way, start, picks, function, place, boxes)
                    self.assertIs(told_has(held[function][place], boxes), True, asked)
                    places.add((len(program), function, place))
                    if function < len(program) - 1:
                        called.add((len(program), function, place))
                        self.assertIs(told_has(wide[function][place], boxes), True, asked)
        # The runs are worth something only where they go far enough.
        self.assertGreater(len(places), 150)
        self.assertGreater(len(called), 100)

    def test_the_tables_stand_by_themselves(self):
        for dice, program, starts, way, seen in some_looks(range(1200, 1320)):
            wide, summaries, held, grew = seen
            for table, function in zip(wide + held, program[:-1] + program):
                for here, act, there in rows_of(function[2]):
                    found = outcome(table[here], act, summaries)
                    self.assertIs(told_inside(found, table[there]), True, (program, starts, way))
            for table, (params, many, body) in zip(wide, program):
                entry = of_stretches([(None, None)] * params + [(0, 0)] * (many - params))
                self.assertIs(stands(rows_of(body), entry, summaries, table), True, (program, starts, way))
            entry = of_stretches(starts + [(0, 0)] * (program[-1][1] - len(starts)))
            self.assertIs(stands(rows_of(program[-1][2]), entry, summaries, held[-1]), True, (program, starts, way))

    def test_arguments_at_each_call_are_inside_what_is_told_at_the_called_ones_first_place(self):
        many = 0
        for dice, program, starts, way, (wide, summaries, held, grew) in some_looks(range(1200, 1320)):
            for called in range(len(program) - 1):
                for caller, here, row, x, there in book.calls_of(program, called):
                    given = argued(held[caller][here], row, program[called][1])
                    many += given is not None
                    self.assertIs(told_inside(given, held[called][0]), True, (program, starts, way))
                    for tables in (held, wide + held[-1:]):
                        given = argued(tables[caller][here], row, program[called][1])
                        self.assertIs(told_inside(given, wide[called][0]), True, (program, starts, way))
        self.assertGreater(many, 100)

    def test_a_saying_told_to_be_always_so_is_and_a_place_told_never_is_in_no_run(self):
        told = []
        for dice, program, starts, way, seen in some_looks(range(1400, 1550)):
            said = {one[:2]: one[2] for one in words(program, seen)}
            claims = {(function, place): claim for function, place, claim in sayings(program)}
            for start, picks, moments in some_runs(dice, program, starts, 8):
                for function, place, boxes in moments:
                    self.assertIsNotNone(seen[2][function][place], (program, starts, way, start, picks))
                    word = said.get((function, place))
                    self.assertNotEqual(word, "never", (program, starts, way, start, picks))
                    if word is not None:
                        told.append((word, holds(claims[function, place], boxes)))
                        self.assertNotEqual(told[-1], ("always", False), (program, starts, way, start, picks))
        self.assertGreater(told.count(("always", True)), 100)
        self.assertGreater(told.count(("may", True)), 100)
        self.assertGreater(told.count(("may", False)), 100)

    def test_a_start_told_to_break_a_saying_breaks_it(self):
        many = 0
        for dice, program, starts, way, seen in some_looks(range(1600, 1660)):
            picks = [dice.throw(41) - 20 for pick in range(dice.throw(6))]
            for function, place, word, steps, start in tell(program, starts, way, picks, 200, 30):
                if start is not None:
                    many += 1
                    self.assertIs(breaks(program, start, picks, 200, function, place), True)
                    self.assertTrue(all(stretch_inside((one, one), span) for one, span in zip(start, starts)))
                    claim = [one[2] for one in sayings(program) if one[:2] == (function, place)][0]
                    self.assertIn(False, [holds(claim, moment[2]) for moment in run(program, start, picks, 200)
                                          if moment[:2] == (function, place)])
        self.assertGreater(many, 30)

    def test_a_look_that_never_grew_wide_is_inside_every_other_one(self):
        many = 0
        for dice, program, starts, way, seen in some_looks(range(1700, 1800)):
            least = look(program, starts, (12, [], dice.throw(2)))
            if not least[3]:
                many += 1
                for turn in range(4):
                    wider = [self.wider(dice, span) for span in starts]
                    other = look(program, wider, some_way(dice))
                    for mine, others in zip(least[:3:2], other[:3:2]):
                        self.assertIs(all_inside(mine, others), True, (program, starts, way))
                    self.assertIs(all_inside([least[1]], [other[1]]), True, (program, starts, way))
        self.assertGreater(many, 40)

    def wider(self, dice, span):
        lo, hi = span
        if lo is not None:
            lo = dice.choice((lo, lo - dice.throw(9), None))
        if hi is not None:
            hi = dice.choice((hi, hi + dice.throw(9), None))
        return (lo, hi)

    def answer(self, dice, program, function, given):
        """What a function answers by itself, or None where its run does not come to its end."""
        picks = [dice.throw(41) - 20 for pick in range(dice.throw(6))]
        moments = run(program[:function + 1], given, picks, 300)
        ended = moments[-1][:2] == (function, last_place(rows_of(program[function][2])))
        return moments[-1][2][-1] if ended else None

    def test_boxes_behind_a_call_that_comes_to_its_end_lie_in_what_is_told_there(self):
        many = 0
        for dice, program, starts, way, (wide, summaries, held, grew) in some_looks(range(1900, 1980), (Ringer,)):
            for called in range(len(program) - 1):
                for caller, here, row, x, there in book.calls_of(program, called):
                    for tables in (held, wide + held[-1:]):
                        for boxes in self.some_that_lie_in(dice, tables[caller][here], program[caller][1]):
                            answer = self.answer(dice, program, called, [value(one, boxes) for one in row])
                            if answer is not None:
                                many += 1
                                then = boxes[:x - 1] + [answer] + boxes[x:]
                                self.assertIs(told_has(tables[caller][there], then), True, (program, starts, way))
        self.assertGreater(many, 500)

    def some_that_lie_in(self, dice, told, n):
        if told is None:
            return []
        found = boxes_of(told, n, 4) if n < 4 else []
        return [dice.choice(found) for k in range(4)] if found else []


class Named(unittest.TestCase):
    """One program with a ring, a call, a choice and a pick, told in whole."""

    # Function 0 counts its answer up to its parameter; the main one asks for 0 to 3 more.
    COUNT = (1, 2, [("while", ("under", [0, -1, 1]), [("set", 2, [1, 0, 1])]), ("say", ("same", [0, -1, 1]))])
    MAIN = (1, 3, [
        ("any", 2, 0, 3), ("if", ("under", [-1, 1, 0, 0]), [("set", 1, [1, 0, 0, 0])], []),
        ("call", 3, 0, [[0, 1, 1, 0]]), ("say", ("under", [-1, 1, 0, -1])), ("say", ("under", [-8, 0, 0, 1])),
        ("if", ("under", [0, 0, 1, 0]), [("say", ("same", [1, 0, 0, 0]))], [])])
    PROGRAM = [COUNT, MAIN]

    def test_words_and_starts(self):
        told = tell(self.PROGRAM, [(0, 5)], (2, [4], 2), [3], 300, 100)
        self.assertEqual([one[:3] for one in told], [
            (0, 4, "always"), (1, 6, "always"), (1, 7, "may"), (1, 9, "never")])
        self.assertEqual([one[4] for one in told], [None, None, [5], None])
        self.assertEqual([step[:2] for step in told[2][3]][-2:], [(1, 6), (1, 7)])

    def test_every_start_and_pick(self):
        wide, summaries, held, grew = look(self.PROGRAM, [(0, 5)], (2, [4], 2))
        for start, pick in itertools.product(range(6), range(4)):
            for function, place, boxes in run(self.PROGRAM, [start], [pick], 300):
                self.assertTrue(told_has(held[function][place], boxes))
                self.assertTrue(function == 1 or told_has(wide[function][place], boxes))


class Nothing(unittest.TestCase):
    def test_nothing_hangs_on_what_was_asked_before(self):
        dice = Dice(73)
        asked = [(program, starts, way) for dice_of, program, starts, way, seen in some_looks(range(2000, 2010))]
        first = [(look(*one), tell(*one, [1, 2], 60, 10)) for one in asked]
        for turn in range(40):
            k = dice.throw(len(asked))
            self.assertEqual((look(*asked[k]), tell(*asked[k], [1, 2], 60, 10)), first[k])


if __name__ == "__main__":
    unittest.main()
