"""Calls: what arguments can hold, and what boxes can hold behind an answer."""

from seer.acts import recast
from seer.copies import fresh, laid
from seer.grids import lower_to, unbound_row
from seer.rests import rest_met
from seer.sums import box_sum, box_sums
from seer.tolds import sharp


def widened(told, more):
    n = len(told[1])
    bounds = [row + [None] * more for row in told[0]]
    new = [unbound_row(i, n + more) for i in range(n + 1, n + more + 1)]
    return (bounds + new, told[1] + [(1, 0)] * more)


def laid_in(told, at, other):
    rests = list(told[1])
    for i, left in zip(at, other[1]):
        rests[i - 1] = rest_met(rests[i - 1], left)
    if None in rests:
        return None
    return (bounds_laid_in(told[0], [0] + at, other[0]), rests)


def bounds_laid_in(bounds, at, other):
    new = fresh(bounds)
    for i, row in zip(at, other):
        for j, bound in zip(at, row):
            lower_to(new, i, j, bound)
    return new


def argued(told, row, many):
    sharpened = sharp(told)
    if sharpened is None:
        return None
    nought = box_sum(0, len(sharpened[1]))
    return recast(sharpened, row + [nought] * (many - len(row)))


def answered(told, x, row, summary):
    sharpened = sharp(told)
    if sharpened is None or summary is None:
        return None
    n = len(sharpened[1])
    answer = n + len(row) + 1
    given = recast(sharpened, box_sums(n, n) + row)
    if given is None:
        return None
    both = sharp(laid_in(widened(given, 1), list(range(n + 1, answer + 1)), summary))
    return recast(both, laid(box_sums(n, answer), x, box_sum(answer, answer)))
