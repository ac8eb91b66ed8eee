"""Stretches: a tuple (lo, hi) has all whole numbers from lo to hi; None is no end."""

from seer.errors import NoStretch


def stretch(lo, hi):
    # The words name no number: Python refuses to write out very long ones.
    if crossed(lo, hi):
        raise NoStretch("lo is above hi")
    return (lo, hi)


def crossed(lo, hi):
    return lo is not None and hi is not None and lo > hi


def stretch_has(one, number):
    return not crossed(one[0], number) and not crossed(number, one[1])


def stretch_inside(one, other):
    above = other[0] is None or (one[0] is not None and one[0] >= other[0])
    below = other[1] is None or (one[1] is not None and one[1] <= other[1])
    return above and below


def stretch_joined(one, other):
    lo = None
    hi = None
    if one[0] is not None and other[0] is not None:
        lo = min(one[0], other[0])
    if one[1] is not None and other[1] is not None:
        hi = max(one[1], other[1])
    return (lo, hi)


def stretch_met(one, other):
    lo = max([end for end in (one[0], other[0]) if end is not None], default=None)
    hi = min([end for end in (one[1], other[1]) if end is not None], default=None)
    if crossed(lo, hi):
        return None
    return (lo, hi)


def stretch_plus(one, other):
    return (end_plus(one[0], other[0]), end_plus(one[1], other[1]))


def end_plus(one, other):
    if one is None or other is None:
        return None
    return one + other


def stretch_times(one, k):
    # A missing end would stay missing, but 0 times any number is 0.
    if k == 0:
        return (0, 0)
    lo = end_times(one[0], k)
    hi = end_times(one[1], k)
    if k < 0:
        return (hi, lo)
    return (lo, hi)


def end_times(end, k):
    if end is None:
        return None
    return end * k


def stretch_parted(one, k):
    return (end_parted(one[0], k), end_parted(one[1], k))


def end_parted(end, k):
    if end is None:
        return None
    return end // k


def stretch_rested(one, k):
    parts = stretch_parted(one, k)
    # Within one n // k the rests rise with the numbers. A stretch that goes
    # on beyond it steps from k - 1 to 0, so it has both.
    if parts[0] is not None and parts[0] == parts[1]:
        return (one[0] % k, one[1] % k)
    return (0, k - 1)
