"""Looks: what the boxes of a whole program can hold at each place."""

from seer.acts import recast
from seer.calls import argued
from seer.errors import NoStart, NoWay
from seer.programs import well_made
from seer.rings import settle
from seer.rows import rows_of
from seer.stretches import stretch
from seer.sums import box_sum, box_sums
from seer.tolds import of_stretches, sharp, told_joined


class Looker:
    # Keeps what was told of the functions that were looked at so far.

    def __init__(self, program, way):
        self.program = program
        self.way = way
        self.rows = [rows_of(function[2]) for function in program]
        self.wide = []
        self.summaries = []
        self.held = [None for function in program]
        self.grew = False

    def settled(self, number, entry):
        told = settle(self.rows[number], entry, self.summaries, self.way)
        self.grew = self.grew or told[1]
        return told[0]

    def look_wide(self, number):
        function = self.program[number]
        table = self.settled(number, entry_of(function, [(None, None)] * function[0]))
        self.wide.append(table)
        self.summaries.append(summary_of(function, table))

    def hold(self, number, entry):
        self.held[number] = self.settled(number, entry)

    def entry_by_calls(self, number):
        # Only functions behind this one can call it.
        entry = None
        for caller in range(number + 1, len(self.program)):
            for here, act, there in self.rows[caller]:
                if act[0] == "call" and act[2] == number:
                    given = argued(self.held[caller][here], act[3], self.program[number][1])
                    entry = told_joined(entry, given)
        return entry


def look(program, starts, way):
    check_look(program, starts, way)
    looker = Looker(program, way)
    main = len(program) - 1
    for number in range(main):
        looker.look_wide(number)
    looker.hold(main, entry_of(program[main], starts))
    for number in range(main - 1, -1, -1):
        looker.hold(number, looker.entry_by_calls(number))
    return (looker.wide, looker.summaries, looker.held, looker.grew)


def check_look(program, starts, way):
    well_made(program)
    if len(starts) != program[-1][0]:
        raise NoStart("there is one start for each parameter of the main function")
    for one in starts:
        stretch(one[0], one[1])
    if way[0] < 0 or way[2] < 0:
        raise NoWay("patience and back are from 0 on")


def entry_of(function, given):
    return of_stretches(given + [(0, 0)] * (function[1] - len(given)))


def summary_of(function, table):
    many = function[1]
    return recast(sharp(table[-1]), box_sums(function[0], many) + [box_sum(many, many)])
