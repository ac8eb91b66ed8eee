"""Runs: what an act does to boxes, and the moments that a program goes through."""

from seer.copies import laid
from seer.errors import NoStart
from seer.rows import program_rows
from seer.sums import holds, value


def done(boxes, act, pick):
    if act[0] == "when" and holds(act[1], boxes) != act[2]:
        return None
    if act[0] in ("go", "say", "when"):
        return list(boxes)
    return laid(boxes, act[1], new_number(boxes, act, pick))


def new_number(boxes, act, pick):
    if act[0] == "any":
        return picked(act[2], act[3], pick)
    number = value(act[2], boxes)
    if act[0] == "part":
        return number // act[3]
    if act[0] == "rest":
        return number % act[3]
    return number


def picked(lo, hi, pick):
    if lo is None and hi is None:
        return pick
    if hi is None:
        return lo + abs(pick)
    if lo is None:
        return hi - abs(pick)
    return lo + pick % (hi - lo + 1)


class Runner:
    # Keeps the moment at which a run is, the calls that wait for an answer,
    # each as its moment and its row, and how many picks were used.

    def __init__(self, program, start, picks):
        self.program = program
        self.ways_on = program_rows(program)
        self.picks = picks
        self.used = 0
        self.waiting = []
        self.moment = first_moment(program, len(program) - 1, start)

    def rows_here(self):
        return self.ways_on[self.moment[0]][self.moment[1]]

    def ended(self):
        return len(self.rows_here()) == 0 and len(self.waiting) == 0

    def go_on(self):
        rows = self.rows_here()
        if len(rows) == 0:
            self.leave()
        elif rows[0][1][0] == "call":
            self.enter(rows[0])
        else:
            self.go_along(rows)

    def enter(self, row):
        act = row[1]
        given = [value(one, self.moment[2]) for one in act[3]]
        self.waiting.append((self.moment, row))
        self.moment = first_moment(self.program, act[2], given)

    def leave(self):
        answer = self.moment[2][-1]
        call = self.waiting.pop()
        caller = call[0]
        row = call[1]
        self.moment = (caller[0], row[2], laid(caller[2], row[1][1], answer))

    def go_along(self, rows):
        pick = self.pick_for(rows[0][1])
        here = self.moment
        for row in rows:
            boxes = done(here[2], row[1], pick)
            if boxes is not None:
                self.moment = (here[0], row[2], boxes)

    def pick_for(self, act):
        if act[0] != "any":
            return 0
        self.used = self.used + 1
        if self.used > len(self.picks):
            return 0
        return self.picks[self.used - 1]


def run(program, start, picks, steps):
    if len(start) != program[-1][0]:
        raise NoStart("a start has one number for each parameter of the main function")
    runner = Runner(program, start, picks)
    moments = [runner.moment]
    while len(moments) <= steps and not runner.ended():
        runner.go_on()
        moments.append(runner.moment)
    return moments


def first_moment(program, function, given):
    many = program[function][1]
    return (function, 0, given + [0 for box in range(many - len(given))])
