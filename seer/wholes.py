"""Whole numbers."""


def divisor(one, other):
    # Signs change nothing about what divides a number, and without them
    # all that is left over is told from 0 on.
    left = abs(one)
    right = abs(other)
    while right != 0:
        over = left % right
        left = right
        right = over
    return left
