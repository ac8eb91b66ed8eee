"""What the tests of all modules share: the kinds of told values, whose lists are whose, and throws for many cases."""

import copy


def is_whole(value):
    return type(value) is int


def is_end(value):
    return value is None or is_whole(value)


def is_stretch(value):
    return type(value) is tuple and len(value) == 2 and all(is_end(end) for end in value)


def is_rest(value):
    if type(value) is not tuple or len(value) != 2 or not all(is_whole(part) for part in value):
        return False
    return value[0] == 0 or 0 <= value[1] < value[0]


def is_sum(value):
    return type(value) is list and len(value) > 0 and all(is_whole(part) for part in value)


def is_grid(value):
    if type(value) is not list or len(value) == 0:
        return False
    rows = all(type(row) is list and len(row) == len(value) and all(is_end(bound) for bound in row) for row in value)
    return rows and all(value[i][i] == 0 for i in range(len(value)))


def is_told(value):
    if value is None:
        return True
    if type(value) is not tuple or len(value) != 2 or not is_grid(value[0]) or type(value[1]) is not list:
        return False
    return len(value[1]) == len(value[0]) - 1 and all(is_rest(part) for part in value[1])


def grid(n, some):
    """Bounds over n boxes, those of some and no others."""
    made = [[None] * (n + 1) for i in range(n + 1)]
    for i in range(n + 1):
        made[i][i] = 0
    for (i, j), bound in some.items():
        made[i][j] = bound
    return made


def lists_within(thing):
    if not isinstance(thing, (list, tuple)):
        return []
    found = [thing] if isinstance(thing, list) else []
    for part in thing:
        found += lists_within(part)
    return found


def spoil(thing):
    for one in lists_within(thing):
        one.append(99)
        one[0] = 98


def check_own(case, ask, *handed):
    """What is told is the asker's own, and what is handed in stays as it was."""
    was = copy.deepcopy(handed)
    told = ask(*handed)
    told_was = copy.deepcopy(told)
    again = ask(*handed)
    case.assertEqual(handed, was)
    case.assertEqual(again, told_was)
    for one in lists_within(told):
        for other in lists_within(handed) + lists_within(again):
            case.assertIsNot(one, other)
    spoil(again)
    case.assertEqual(handed, was)
    case.assertEqual(told, told_was)
    case.assertEqual(ask(*handed), told_was)
    spoil(handed)
    case.assertEqual(told, told_was)
    case.assertEqual(ask(*was), told_was)


class Dice:
    """Throws that are the same in every run and under every Python."""

    def __init__(self, seed):
        self.state = seed

    def throw(self, sides):
        self.state = (self.state * 6364136223846793005 + 1442695040888963407) % 2 ** 64
        return (self.state >> 33) % sides

    def choice(self, some):
        return some[self.throw(len(some))]
