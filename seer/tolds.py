"""Told things: None, never, or a tuple (bounds, rests) that tells how boxes lie apart and what rests they have."""

from seer.copies import fresh
from seer.grids import closed, greater, not_above, unbound
from seer.rests import rest_has, rest_inside, rest_joined, rest_met, rest_plus, rest_times, rest_under
from seer.stretches import end_plus, end_times


def told_has(told, boxes):
    if told is None:
        return False
    return bounds_have(told[0], [0] + boxes) and rests_have(told[1], boxes)


def bounds_have(bounds, held):
    return all([row_has(row, number, held) for row, number in zip(bounds, held)])


def row_has(row, number, held):
    return all([not_above(number - other, bound) for bound, other in zip(row, held)])


def rests_have(rests, boxes):
    return all([rest_has(left, number) for left, number in zip(rests, boxes)])


def told_inside(one, other):
    if one is None:
        return True
    if other is None:
        return False
    return bounds_inside(one[0], other[0]) and rests_inside(one[1], other[1])


def bounds_inside(one, other):
    return all([row_inside(row, other_row) for row, other_row in zip(one, other)])


def row_inside(row, other):
    return all([not_above(bound, other_bound) for bound, other_bound in zip(row, other)])


def rests_inside(one, other):
    return all([rest_inside(left, other_left) for left, other_left in zip(one, other)])


def told_joined(one, other):
    if one is None:
        return fresh(other)
    if other is None:
        return fresh(one)
    bounds = [row_joined(row, other_row) for row, other_row in zip(one[0], other[0])]
    rests = [rest_joined(left, other_left) for left, other_left in zip(one[1], other[1])]
    return (bounds, rests)


def row_joined(row, other):
    return [greater(bound, other_bound) for bound, other_bound in zip(row, other)]


def sharp(told):
    # Lowered bounds can shut others in and tie boxes anew.
    return tied(lowered(tied(told)))


def tied(told):
    return handed_over(shut(told))


def shut(told):
    if told is None:
        return None
    bounds = closed(told[0])
    if bounds is None:
        return None
    return (bounds, told[1])


def handed_over(told):
    if told is None:
        return None
    rests = with_nought(told[1])
    met = [rest_of_ties(told[0], rests, i) for i in range(1, len(rests))]
    if None in met:
        return None
    return (told[0], met)


def with_nought(rests):
    return [(0, 0)] + rests


def rest_of_ties(bounds, rests, i):
    # A box lies 0 from itself too, which changes nothing.
    met = rests[i]
    for j, other in enumerate(rests):
        if met is not None and end_plus(bounds[i][j], bounds[j][i]) == 0:
            met = rest_met(met, rest_plus(other, (0, bounds[i][j])))
    return met


def lowered(told):
    if told is None:
        return None
    rests = with_nought(told[1])
    bounds = [row_lowered(row, left, rests) for row, left in zip(told[0], rests)]
    if None in bounds:
        return None
    return (bounds, told[1])


def row_lowered(row, left, rests):
    # None where a bound has no number of its rest below it. A box less
    # itself is 0, so its bound, 0, stays.
    new = []
    for bound, other in zip(row, rests):
        low = bound_lowered(bound, rest_plus(left, rest_times(other, -1)))
        if low is None and bound is not None:
            return None
        new.append(low)
    return new


def bound_lowered(bound, left):
    if bound is not None:
        return rest_under(left, bound)
    if left[0] == 0:
        return left[1]
    return None


def grown(old, new, marks):
    if old is None:
        return fresh(new)
    if new is None:
        return fresh(old)
    bounds = [row_grown(row, new_row, marks) for row, new_row in zip(old[0], new[0])]
    rests = [left if rest_inside(new_left, left) else (1, 0) for left, new_left in zip(old[1], new[1])]
    return (bounds, rests)


def row_grown(row, new, marks):
    return [bound_grown(bound, new_bound, marks) for bound, new_bound in zip(row, new)]


def bound_grown(old, new, marks):
    if not_above(new, old):
        return old
    if new is None:
        return None
    return min([mark for mark in marks if mark >= new], default=None)


def of_stretches(some):
    bounds = unbound(len(some))
    for i, one in enumerate(some, start=1):
        set_ends(bounds, i, one)
    return sharp((bounds, [(1, 0) for one in some]))


def set_ends(bounds, i, one):
    bounds[i][0] = one[1]
    bounds[0][i] = end_times(one[0], -1)


def stretches_of(told):
    bounds = told[0]
    return [(end_times(bounds[0][i], -1), bounds[i][0]) for i in range(1, len(bounds))]
