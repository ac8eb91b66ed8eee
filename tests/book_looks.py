"""A second telling of points 32 to 41, step by step as the document has them, without anything kept for later."""

import functools
import itertools

from seer.acts import recast
from seer.calls import argued
from seer.outcomes import outcome
from seer.rows import rows_of
from seer.runs import run
from seer.sums import box_sum, holds
from seer.tolds import grown, of_stretches, sharp, stretches_of, told_inside, told_joined


def heads(rows):
    found = []
    for here, act, there in rows:
        if not there > here:
            found.append((there, here))
    return sorted(found)


def stands(rows, entry, summaries, table):
    if not told_inside(entry, table[0]):
        return False
    for here, act, there in rows:
        if not told_inside(outcome(table[here], act, summaries), table[there]):
            return False
    return True


def new(rows, entry, summaries, table, q):
    found = [outcome(table[here], act, summaries) for here, act, there in rows if there == q]
    if q == 0:
        found.append(entry)
    return functools.reduce(told_joined, found)


class Settling:
    def __init__(self, rows, entry, summaries, way):
        self.asked = (rows, entry, summaries)
        self.patience, self.marks, self.back = way
        self.last = max([0] + [row[2] for row in rows])
        self.table = [None] * (self.last + 1)
        self.ring_of = dict(heads(rows))
        self.joined = []
        self.wide = []

    def calling(self, q):
        old, now = self.table[q], new(*self.asked, self.table, q)
        if told_inside(now, old):
            return False
        if old is None:
            self.table[q] = now
        elif q not in self.ring_of:
            self.table[q] = told_joined(old, now)
        elif self.joined.count(q) < self.patience:
            self.table[q] = told_joined(old, now)
            self.joined.append(q)
        else:
            self.table[q] = grown(old, now, self.marks)
            self.wide.append(q)
        return True

    def going_over(self, places):
        while places:
            q, places = places[0], places[1:]
            if q in self.ring_of:
                last = self.ring_of[q]
                changed = self.calling(q)
                while changed:
                    self.going_over(list(range(q + 1, last + 1)))
                    changed = self.calling(q)
                places = [place for place in places if place > last]
            else:
                self.calling(q)

    def going_back(self):
        for turn in range(self.back):
            beside = list(self.table)
            for q in range(self.last + 1):
                beside[q] = new(*self.asked, beside, q)
            if not stands(*self.asked, beside):
                break
            self.table = beside

    def clearing(self):
        rows, entry, summaries = self.asked
        kept = set() if self.table[0] is None else {0}
        for turn in self.table:
            for here, act, there in rows:
                if here in kept and outcome(self.table[here], act, summaries) is not None:
                    kept.add(there)
        self.table = [self.table[q] if q in kept else None for q in range(self.last + 1)]


def settle(rows, entry, summaries, way):
    settling = Settling(rows, entry, summaries, way)
    settling.going_over(list(range(settling.last + 1)))
    settling.going_back()
    settling.clearing()
    return (settling.table, len(settling.wide) > 0)


def first(function, stretches):
    return of_stretches((stretches + [(0, 0)] * function[1])[:function[1]])


def calls_of(program, f):
    for g, (params, many, body) in enumerate(program):
        for here, act, there in rows_of(body):
            if act[0] == "call" and act[2] == f:
                yield g, here, act[3], act[1], there


def look(program, starts, way):
    wide, summaries, grew = [], [], []
    for params, many, body in program[:-1]:
        table, grown_wide = settle(rows_of(body), first((params, many), [(None, None)] * params), summaries, way)
        told = [box_sum(i, many) for i in range(1, params + 1)] + [box_sum(many, many)]
        wide.append(table)
        grew.append(grown_wide)
        summaries.append(recast(sharp(table[-1]), told))
    held = {}
    for f in range(len(program) - 1, -1, -1):
        if f == len(program) - 1:
            entry = first(program[f], starts)
        else:
            given = [argued(held[g][here], row, program[f][1]) for g, here, row, x, there in calls_of(program, f)]
            entry = functools.reduce(told_joined, given, None)
        held[f], grown_wide = settle(rows_of(program[f][2]), entry, summaries, way)
        grew.append(grown_wide)
    return (wide, summaries, [held[f] for f in range(len(program))], True in grew)


def sayings(program):
    found = []
    for f, (params, many, body) in enumerate(program):
        found += [(f, here, act[1]) for here, act, there in rows_of(body) if act[0] == "say"]
    return sorted(found, key=lambda saying: saying[:2])


def words(program, seen):
    wide, summaries, held, grew = seen
    told = []
    for f, place, claim in sayings(program):
        if held[f][place] is None:
            told.append((f, place, "never"))
        elif outcome(held[f][place], ("when", claim, False), summaries) is None:
            told.append((f, place, "always"))
        else:
            told.append((f, place, "may"))
    return told


def next_ones(program, seen, f, place):
    """All that may come next in a trail."""
    wide, summaries, held, grew = seen
    for here, act, there in rows_of(program[f][2]):
        if here == place:
            if outcome(held[f][place], act, summaries) is not None:
                yield (f, there)
            if act[0] == "call" and argued(held[f][place], act[3], program[act[2]][1]) is not None:
                yield (act[2], 0)


def is_trail(program, seen, f, place, told):
    held = seen[2]
    if held[f][place] is None or told is None:
        return held[f][place] is None and told is None
    steps = [step[:2] for step in told]
    if steps[0] != (len(program) - 1, 0) or steps[-1] != (f, place) or len(set(steps)) < len(steps):
        return False
    if any(stretches != stretches_of(held[g][here]) for g, here, stretches in told):
        return False
    return all(after in next_ones(program, seen, *before) for before, after in zip(steps, steps[1:]))


def tried(one, marks):
    lo, hi = one
    found = []
    for number in [lo, hi, 0, *marks]:
        if number is not None and (lo is None or number >= lo) and (hi is None or number <= hi):
            if number not in found:
                found.append(number)
    return sorted(found)


def breaks(program, start, picks, steps, function, place):
    claims = [claim for f, here, claim in sayings(program) if (f, here) == (function, place)]
    boxes = [held for f, here, held in run(program, start, picks, steps) if (f, here) == (function, place)]
    return any(not holds(claim, held) for claim, held in itertools.product(claims, boxes))


def breaker(program, starts, marks, picks, steps, most, function, place):
    order = itertools.product(*[tried(one, marks) for one in starts])
    for start in itertools.islice(order, most):
        if breaks(program, list(start), picks, steps, function, place):
            return list(start)
    return None
