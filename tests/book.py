"""A second telling of what acts and calls do to told things, step by step as the document has it.

It draws on seer.rests and on seer.tolds, which have tests of their own, and on nothing that stands on them.
"""

import copy
import itertools
import math

from seer.rests import rest_loosened, rest_met, rest_parted, rest_rested
from seer.stretches import stretch_parted, stretch_rested
from seer.tolds import sharp


def plus(*sums):
    return [sum(numbers) for numbers in zip(*sums)]


def times(k, one):
    return [k * number for number in one]


def box(i, n):
    one = [0] * (n + 1)
    if i:
        one[i] = 1
    return one


def without(i, one):
    return one[:i] + [0] + one[i + 1:]


def rest_of(one, rests):
    m = math.gcd(*[k * left[0] for k, left in zip(one[1:], rests)])
    r = one[0] + sum(k * left[1] for k, left in zip(one[1:], rests))
    return (m, r % m if m else r)


def greatest(told, one):
    used = {i: k for i, k in enumerate(one) if i > 0 and k != 0}
    if len(used) == 2 and set(used.values()) == {1, -1}:
        by_factor = {k: i for i, k in used.items()}
        bound = told[0][by_factor[1]][by_factor[-1]]
        return None if bound is None else bound + one[0]
    parts = [one[0]]
    for i, k in used.items():
        bound = told[0][i][0] if k > 0 else told[0][0][i]
        if bound is None:
            return None
        parts.append((k if k > 0 else -k) * bound)
    return sum(parts)


def least(told, one):
    found = greatest(told, times(-1, one))
    return None if found is None else -found


def recast(told, sums):
    if told is None:
        return None
    nought = [0] * (len(told[1]) + 1)
    bounds = [[greatest(told, plus(one, times(-1, other))) for other in [nought] + sums] for one in [nought] + sums]
    return sharp((bounds, [rest_of(one, told[1]) for one in sums]))


def anew(told, x, span, left):
    if told is None:
        return None
    bounds, rests = copy.deepcopy(told)
    for j in range(len(bounds)):
        bounds[x][j] = None
        bounds[j][x] = None
    lo, hi = span
    bounds[x][0] = hi
    bounds[0][x] = None if lo is None else -lo
    bounds[x][x] = 0
    rests[x - 1] = left
    return sharp((bounds, rests))


def at_most(told, one, top):
    if told is None:
        return None
    low = least(told, one)
    if low is not None and low > top:
        return None
    n = len(told[1])
    wished = []
    for i, j in itertools.permutations(range(n + 1), 2):
        g = greatest(told, plus(box(i, n), times(-1, box(j, n)), times(-1, one)))
        if g is not None:
            wished.append((i, j, g + top))
    for i in range(1, n + 1):
        k = one[i]
        if k == 0:
            continue
        g = greatest(told, plus(times(k, box(i, n)), times(-1, one)))
        if g is not None:
            wished.append((i, 0, (g + top) // k) if k > 0 else (0, i, (g + top) // -k))
    bounds = copy.deepcopy(told[0])
    for i, j, bound in wished:
        if bounds[i][j] is None or bounds[i][j] > bound:
            bounds[i][j] = bound
    return sharp((bounds, told[1]))


def met_by(told, one, loosened):
    """The rest of each box whose factor is 1 or -1 is met with what the others leave it."""
    rests = list(told[1])
    for i in range(1, len(one)):
        k = one[i]
        if k in (1, -1):
            left = loosened(rest_of(times(-k, without(i, one)), told[1]))
            rests[i - 1] = rest_met(rests[i - 1], left)
            if rests[i - 1] is None:
                return None
    return sharp((told[0], rests))


def when(told, claim, truth):
    if told is None:
        return None
    one = claim[1]
    m, r = rest_of(one, told[1])
    if claim[0] == "under":
        return at_most(told, one, -1) if truth else at_most(told, times(-1, one), 0)
    if claim[0] == "same" and truth:
        if not (r == 0 if m == 0 else r % m == 0):
            return None
        held = at_most(at_most(told, one, 0), times(-1, one), 0)
        return None if held is None else met_by(held, one, lambda left: left)
    if claim[0] == "same":
        return when_not_same(told, one)
    d = claim[2]
    if truth:
        return None if r % math.gcd(m, d) != 0 else met_by(told, one, lambda left: rest_loosened(left, d))
    if m % d == 0 and r % d == 0:
        return None
    if d == 2:
        return when(told, ("even", plus(one, [1] + [0] * len(told[1])), 2), True)
    return told


def when_not_same(told, one):
    left = told
    high = greatest(told, one)
    if high is not None and high <= 0:
        left = at_most(told, one, -1)
    if left is not None:
        low = least(left, one)
        if low is not None and low >= 0:
            left = at_most(left, times(-1, one), -1)
    return left


def widened(told, more):
    n = len(told[1])
    bounds = [[None] * (n + more + 1) for i in range(n + more + 1)]
    for i, j in itertools.product(range(n + 1), repeat=2):
        bounds[i][j] = told[0][i][j]
    for i in range(n + more + 1):
        bounds[i][i] = 0
    return (bounds, told[1] + [(1, 0) for box_of_more in range(more)])


def laid_in(told, at, other):
    bounds, rests = copy.deepcopy(told)
    where = {0: 0, **{i: x for i, x in enumerate(at, 1)}}
    for i, j in itertools.permutations(where, 2):
        some = [bound for bound in (bounds[where[i]][where[j]], other[0][i][j]) if bound is not None]
        bounds[where[i]][where[j]] = min(some) if some else None
    for i, x in enumerate(at, 1):
        rests[x - 1] = rest_met(rests[x - 1], other[1][i - 1])
    return None if None in rests else (bounds, rests)


def argued(told, row, many):
    found = sharp(told)
    if found is None:
        return None
    return recast(found, row + [[0] * (len(told[1]) + 1) for other in range(many - len(row))])


def answered(told, x, row, summary):
    found = sharp(told)
    if found is None or summary is None:
        return None
    n = len(told[1])
    p = len(row)
    found = recast(found, [box(i, n) for i in range(1, n + 1)] + row)
    if found is None:
        return None
    found = laid_in(widened(found, 1), [n + 1 + i for i in range(p + 1)], summary)
    if found is None:
        return None
    found = sharp(found)
    if found is None:
        return None
    return recast(found, [box(n + p + 1 if i == x else i, n + p + 1) for i in range(1, n + 1)])


def outcome(told, act, summaries):
    found = sharp(told)
    if found is None or act[0] in ("go", "say"):
        return found
    if act[0] == "when":
        return when(found, act[1], act[2])
    x = act[1]
    n = len(told[1])
    if act[0] == "set":
        return recast(found, [act[2] if i == x else box(i, n) for i in range(1, n + 1)])
    if act[0] == "any":
        return anew(found, x, (act[2], act[3]), (1, 0))
    if act[0] == "call":
        return answered(found, x, act[3], summaries[act[2]])
    span = (least(found, act[2]), greatest(found, act[2]))
    left = rest_of(act[2], found[1])
    if act[0] == "part":
        return anew(found, x, stretch_parted(span, act[3]), rest_parted(left, act[3]))
    return anew(found, x, stretch_rested(span, act[3]), rest_rested(left, act[3]))
