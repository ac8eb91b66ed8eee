"""Rings and tables: what is told at each place of a body, settled along its rows."""

from seer.outcomes import outcome
from seer.reaches import reached
from seer.rows import last_place
from seer.tolds import grown, told_inside, told_joined


def heads(rows):
    return sorted([(row[2], row[0]) for row in rows if row[2] <= row[0]])


def stands(rows, entry, summaries, table):
    return Flow(rows, entry, summaries).stands_by(table)


class Flow:
    # Keeps what tables are settled by, and beside each row the told thing by
    # which its outcome was told last: outcomes are long to tell, and most
    # places tell the same as when they were looked at before.

    def __init__(self, rows, entry, summaries):
        self.rows = rows
        self.entry = entry
        self.summaries = summaries
        self.known = [(None, None) for row in rows]

    def outcome_of(self, number, table):
        row = self.rows[number]
        told = table[row[0]]
        if self.known[number][0] != told:
            self.known[number] = (told, outcome(told, row[1], self.summaries))
        return self.known[number][1]

    def new_at(self, place, table):
        new = told_joined(None, self.entry) if place == 0 else None
        for number, row in enumerate(self.rows):
            if row[2] == place:
                new = told_joined(new, self.outcome_of(number, table))
        return new

    def stands_by(self, table):
        if not told_inside(self.entry, table[0]):
            return False
        return all([self.row_stands(number, table) for number in range(len(self.rows))])

    def row_stands(self, number, table):
        return told_inside(self.outcome_of(number, table), table[self.rows[number][2]])

    def gone_back(self, table):
        beside = list(table)
        for place in range(len(table)):
            beside[place] = self.new_at(place, beside)
        return beside

    def ends_from(self, place, table):
        ends = []
        for number, row in enumerate(self.rows):
            if row[0] == place and self.outcome_of(number, table) is not None:
                ends.append(row[2])
        return ends

    def cleared(self, table):
        # From a place 0 that is never no other is reached, and never it stays.
        kept = reached(0, lambda place: self.ends_from(place, table))
        return [told if place in kept else None for place, told in enumerate(table)]


class Settler:
    # Keeps the table as it is by now, how often each head was joined, and
    # whether the table has grown wide.

    def __init__(self, flow, way):
        self.flow = flow
        self.patience = way[0]
        self.marks = way[1]
        self.lasts = dict(heads(flow.rows))
        self.joins = dict([(head, 0) for head in self.lasts])
        self.table = [None for place in range(last_place(flow.rows) + 1)]
        self.grew = False

    def go_over(self, first, last):
        place = first
        while place <= last:
            if place in self.lasts:
                self.settle_ring(place)
                place = self.lasts[place]
            else:
                self.call_at(place)
            place = place + 1

    def settle_ring(self, head):
        while self.call_at(head):
            self.go_over(head + 1, self.lasts[head])

    def call_at(self, place):
        # Tells whether something was changed.
        old = self.table[place]
        new = self.flow.new_at(place, self.table)
        if told_inside(new, old):
            return False
        self.table[place] = self.risen(place, old, new)
        return True

    def risen(self, place, old, new):
        if old is None or place not in self.lasts:
            return told_joined(old, new)
        if self.joins[place] < self.patience:
            self.joins[place] = self.joins[place] + 1
            return told_joined(old, new)
        self.grew = True
        return grown(old, new, self.marks)

    def go_back(self):
        # Tells whether it is worth going back once more: from the same table
        # the same would be told again and again.
        beside = self.flow.gone_back(self.table)
        if beside == self.table or not self.flow.stands_by(beside):
            return False
        self.table = beside
        return True


def settle(rows, entry, summaries, way):
    flow = Flow(rows, entry, summaries)
    settler = Settler(flow, way)
    settler.go_over(0, last_place(rows))
    for turn in range(way[2]):
        if not settler.go_back():
            break
    return (flow.cleared(settler.table), settler.grew)
