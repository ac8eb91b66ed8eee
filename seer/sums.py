"""Sums over boxes: a list [c, k1, .., kn]; and claims, which are made of sums."""

from seer.rests import rest_plus, rest_times
from seer.stretches import stretch_plus, stretch_times


def value(one, boxes):
    return one[0] + sum([k * held for k, held in zip(one[1:], boxes)])


def box_sum(i, n):
    # The sum's first number belongs to no box, so box 0, nought, has none.
    return [1 if i > 0 and place == i else 0 for place in range(n + 1)]


def box_sums(many, n):
    return [box_sum(i, n) for i in range(1, many + 1)]


def sum_plus(one, other):
    return [left + right for left, right in zip(one, other)]


def sum_times(one, k):
    return [number * k for number in one]


def sum_less(one, other):
    return sum_plus(one, sum_times(other, -1))


def sum_stretch(one, stretches):
    whole = (one[0], one[0])
    for k, part in zip(one[1:], stretches):
        whole = stretch_plus(whole, stretch_times(part, k))
    return whole


def sum_rest(one, rests):
    whole = (0, one[0])
    for k, part in zip(one[1:], rests):
        whole = rest_plus(whole, rest_times(part, k))
    return whole


def holds(claim, boxes):
    told = value(claim[1], boxes)
    if claim[0] == "under":
        return told < 0
    if claim[0] == "same":
        return told == 0
    return told % claim[2] == 0
