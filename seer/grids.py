"""Grids of bounds: lists of lists of whole numbers and of None, no bound, which is greater than all numbers."""

from seer.stretches import end_plus


def not_above(one, other):
    return other is None or (one is not None and one <= other)


def lesser(one, other):
    return one if not_above(one, other) else other


def greater(one, other):
    return other if not_above(one, other) else one


def lower_to(bounds, i, j, bound):
    bounds[i][j] = lesser(bounds[i][j], bound)


def unbound(n):
    return [unbound_row(i, n) for i in range(n + 1)]


def unbound_row(i, n):
    return [0 if i == j else None for j in range(n + 1)]


def closed(bounds):
    # Behind each turn a bound is the least sum along ways by the boxes up to
    # mid, so a ring below 0 shows as soon as its last box has had its turn.
    near = bounds
    for mid in range(len(bounds)):
        near = by_way_of(near, mid)
        if below_nought(near):
            return None
    return near


def by_way_of(bounds, mid):
    return [row_by_way_of(row, row[mid], bounds[mid]) for row in bounds]


def row_by_way_of(row, there, further):
    return [lesser(straight, end_plus(there, onward)) for straight, onward in zip(row, further)]


def below_nought(bounds):
    return any([bounds[i][i] < 0 for i in range(len(bounds))])
