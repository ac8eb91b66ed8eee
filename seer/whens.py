"""What is left of told things where a sum is at most a number, and where a claim holds or does not hold."""

from seer.acts import greatest, least
from seer.copies import fresh
from seer.grids import lower_to, not_above
from seer.rests import rest_has, rest_inside, rest_loosened, rest_met, rest_times
from seer.stretches import crossed, end_parted, end_plus
from seer.sums import box_sum, sum_less, sum_rest, sum_times
from seer.tolds import sharp


def at_most(told, one, top):
    if told is None or crossed(least(told, one), top):
        return None
    bounds = fresh(told[0])
    lower_apart(bounds, told, one, top)
    lower_alone(bounds, told, one, top)
    return sharp((bounds, told[1]))


def lower_apart(bounds, told, one, top):
    # For i = j the new bound is not below 0, as the least is not above top,
    # so the old one, 0, stays.
    n = len(told[1])
    for i in range(n + 1):
        for j in range(n + 1):
            apart = sum_less(box_sum(i, n), box_sum(j, n))
            lower_to(bounds, i, j, top_beside(told, apart, one, top))


def lower_alone(bounds, told, one, top):
    n = len(told[1])
    for i in range(1, n + 1):
        k = one[i]
        bound = top_beside(told, sum_times(box_sum(i, n), k), one, top)
        if k > 0:
            lower_to(bounds, i, 0, end_parted(bound, k))
        if k < 0:
            lower_to(bounds, 0, i, end_parted(bound, -k))


def top_beside(told, part, one, top):
    # Where one is at most top, part is at most top and what part has more.
    return end_plus(greatest(told, sum_less(part, one)), top)


def when(told, claim, truth):
    if told is None:
        return None
    if claim[0] == "under":
        return when_under(told, claim[1], truth)
    if claim[0] == "same":
        return when_same(told, claim[1]) if truth else when_not_same(told, claim[1])
    return when_even(told, claim[1], claim[2]) if truth else when_not_even(told, claim[1], claim[2])


def when_under(told, one, truth):
    if truth:
        return at_most(told, one, -1)
    return at_most(told, sum_times(one, -1), 0)


def when_same(told, one):
    if not rest_has(sum_rest(one, told[1]), 0):
        return None
    held = at_most(at_most(told, one, 0), sum_times(one, -1), 0)
    # A multiple of 0 is 0.
    return rests_met(held, one, 0)


def when_not_same(told, one):
    return fresh(kept_off(kept_off(told, one), sum_times(one, -1)))


def kept_off(told, one):
    # Bounds can leave out 0 only where the sum does not go beyond it.
    if told is not None and not_above(greatest(told, one), 0):
        return at_most(told, one, -1)
    return told


def when_even(told, one, d):
    if not rest_has(rest_loosened(sum_rest(one, told[1]), d), 0):
        return None
    return rests_met(told, one, d)


def when_not_even(told, one, d):
    if rest_inside(sum_rest(one, told[1]), (d, 0)):
        return None
    if d == 2:
        return when_even(told, [one[0] + 1] + one[1:], 2)
    return fresh(told)


def rests_met(told, one, d):
    # Held to one being a multiple of d.
    if told is None:
        return None
    rests = [rest_beside(told[1], one, d, i) for i in range(1, len(one))]
    if None in rests:
        return None
    return sharp((told[0], rests))


def rest_beside(rests, one, d, i):
    k = one[i]
    left = rests[i - 1]
    if abs(k) != 1:
        return left
    others = sum_less(one, sum_times(box_sum(i, len(rests)), k))
    return rest_met(left, rest_loosened(rest_times(sum_rest(others, rests), -k), d))
