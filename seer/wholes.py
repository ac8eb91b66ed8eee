"""Whole numbers."""


def divisor(one, other):
    # Signs change nothing about what divides a number, and without them
    # all that is left over is told from 0 on.
    left = abs(one)
    right = abs(other)
    while right != 0:
        over = left % right
        left = right
        right = over
    return left


def inverse(one, by):
    # Told for numbers whose divisor is 1: from 0 on, below by, and times one
    # it is 1 more than a multiple of by. At each step left and right are
    # left_turns and right_turns times one, but for multiples of by.
    left = one % by
    right = by
    left_turns = 1
    right_turns = 0
    while right != 0:
        part = left // right
        over = left - part * right
        over_turns = left_turns - part * right_turns
        left = right
        left_turns = right_turns
        right = over
        right_turns = over_turns
    return left_turns % by
