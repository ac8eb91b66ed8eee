"""What acts do to told things: how far sums go by them, and boxes that hold something else then."""

from seer.copies import laid
from seer.grids import unbound_row
from seer.stretches import end_plus, end_times
from seer.sums import box_sum, sum_less, sum_rest, sum_stretch, sum_times
from seer.tolds import set_ends, sharp, stretches_of


def greatest(told, one):
    # How far two boxes lie apart has a bound of its own.
    if is_difference(one):
        return end_plus(told[0][one.index(1, 1)][one.index(-1, 1)], one[0])
    return sum_stretch(one, stretches_of(told))[1]


def is_difference(one):
    return sorted([k for k in one[1:] if k != 0]) == [-1, 1]


def least(told, one):
    return end_times(greatest(told, sum_times(one, -1)), -1)


def recast(told, sums):
    if told is None:
        return None
    all_sums = [box_sum(0, len(told[1]))] + sums
    bounds = [row_recast(told, one, all_sums) for one in all_sums]
    rests = [sum_rest(one, told[1]) for one in sums]
    return sharp((bounds, rests))


def row_recast(told, one, others):
    return [greatest(told, sum_less(one, other)) for other in others]


def anew(told, x, span, left):
    if told is None:
        return None
    bounds = loose_at(told[0], x)
    set_ends(bounds, x, span)
    return sharp((bounds, laid(told[1], x, left)))


def loose_at(bounds, x):
    # A row of bounds begins with nought, so x there is the box behind x.
    loose = [laid(row, x + 1, None) for row in bounds]
    loose[x] = unbound_row(x, len(bounds) - 1)
    return loose
