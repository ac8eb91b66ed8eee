"""Rests: a tuple (m, r) has the numbers that are r and a multiple of m; for m = 0 that is r alone."""

from seer.errors import NoRest
from seer.wholes import divisor, inverse


def rest(m, r):
    if m < 0:
        raise NoRest("m is below 0")
    if m == 0:
        return (0, r)
    return (m, r % m)


def rest_has(one, number):
    if one[0] == 0:
        return number == one[1]
    return number % one[0] == one[1]


def rest_inside(one, other):
    # A number alone has no other beside it.
    if other[0] == 0:
        return one == other
    return one[0] % other[0] == 0 and rest_has(other, one[1])


def rest_joined(one, other):
    steps = divisor(one[0], other[0])
    return rest(divisor(steps, one[1] - other[1]), one[1])


def rest_met(one, other):
    if one[0] == 0:
        return one if rest_has(other, one[1]) else None
    if other[0] == 0:
        return other if rest_has(one, other[1]) else None
    common = divisor(one[0], other[0])
    apart = other[1] - one[1]
    if apart % common != 0:
        return None
    # So many steps of one lead from its r to a number of the other.
    width = other[0] // common
    turns = apart // common * inverse(one[0] // common, width)
    return rest(one[0] * width, one[1] + one[0] * turns)


def rest_plus(one, other):
    return rest(divisor(one[0], other[0]), one[1] + other[1])


def rest_times(one, k):
    return rest(one[0] * abs(k), one[1] * k)


def rest_parted(one, k):
    if one[0] % k == 0:
        return rest(one[0] // k, one[1] // k)
    # From one number to the next n // k goes up by m // k, or by 1 more, and
    # each of both comes somewhere: only 1 divides both.
    return (1, 0)


def rest_rested(one, k):
    common = divisor(one[0], k)
    if common == k:
        return (0, one[1] % k)
    return rest(common, one[1])


def rest_loosened(one, k):
    return rest(divisor(one[0], k), one[1])


def rest_under(one, top):
    if one[0] == 0:
        return one[1] if one[1] <= top else None
    return top - (top - one[1]) % one[0]
