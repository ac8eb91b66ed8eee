"""Places and rows: where a body can be, and what is done from one place to another."""

from seer.copies import fresh


class Layer:
    # Keeps the rows laid so far and the last place used.

    def __init__(self):
        self.rows = []
        self.used = 0

    def lay_new(self, here, act):
        self.used = self.used + 1
        self.lay(here, act, self.used)
        return self.used

    def lay(self, here, act, there):
        self.rows.append((here, act, there))

    def lay_body(self, body, here):
        place = here
        for statement in body:
            place = self.lay_statement(statement, place)
        return place

    def lay_statement(self, statement, here):
        if statement[0] == "if":
            return self.lay_if(statement, here)
        if statement[0] == "while":
            return self.lay_while(statement, here)
        return self.lay_new(here, fresh(statement))

    def lay_if(self, statement, here):
        then = self.lay_new(here, when_act(statement[1], True))
        then_end = self.lay_body(statement[2], then)
        other = self.lay_new(here, when_act(statement[1], False))
        other_end = self.lay_body(statement[3], other)
        end = self.lay_new(then_end, ("go",))
        self.lay(other_end, ("go",), end)
        return end

    def lay_while(self, statement, here):
        head = self.lay_new(here, ("go",))
        again = self.lay_new(head, when_act(statement[1], True))
        again_end = self.lay_body(statement[2], again)
        self.lay(again_end, ("go",), head)
        return self.lay_new(head, when_act(statement[1], False))


def rows_of(body):
    layer = Layer()
    layer.lay_body(body, 0)
    return layer.rows


def last_place(rows):
    return max([max(row[0], row[2]) for row in rows], default=0)


def when_act(claim, truth):
    return ("when", fresh(claim), truth)


def rows_by_place(rows):
    by_place = [[] for place in range(last_place(rows) + 1)]
    for row in rows:
        by_place[row[0]].append(row)
    return by_place


def program_rows(program):
    return [rows_by_place(rows_of(function[2])) for function in program]
