"""The search: starts that break sayings, and all that is told of a program."""

from seer.looks import look
from seer.runs import run
from seer.stretches import stretch_has
from seer.sums import holds
from seer.tellers import came_from, sayings, trail_along, words


def tried(one, marks):
    ends = [end for end in one if end is not None]
    return sorted(set([number for number in ends + [0] + marks if stretch_has(one, number)]))


def breaks(program, start, picks, steps, function, place):
    moments = run(program, start, picks, steps)
    return any([is_broken(saying, moments) for saying in sayings_at(program, [(function, place)])])


def is_broken(saying, moments):
    return any([not holds(saying[2], moment[2]) for moment in moments if moment[:2] == saying[:2]])


def sayings_at(program, places):
    return [saying for saying in sayings(program) if saying[:2] in places]


def breaker(program, starts, marks, picks, steps, most, function, place):
    some = sayings_at(program, [(function, place)])
    return breakers(program, first_starts(starts, marks, most), picks, steps, some).get((function, place))


def breakers(program, some_starts, picks, steps, some):
    # One run tells of all sayings, so no start is run once for each of them.
    found = {}
    for start in some_starts:
        unbroken = [saying for saying in some if saying[:2] not in found]
        if len(unbroken) == 0:
            return found
        moments = run(program, start, picks, steps)
        for saying in unbroken:
            if is_broken(saying, moments):
                found[saying[:2]] = start
    return found


def first_starts(starts, marks, most):
    choices = [tried(one, marks) for one in starts]
    many = 1
    for numbers in choices:
        many = many * len(numbers)
    return [start_at(choices, count) for count in range(min(most, many))]


def start_at(choices, count):
    # The last number changes fastest, like the last figure in counting.
    backwards = []
    left = count
    for numbers in reversed(choices):
        backwards.append(numbers[left % len(numbers)])
        left = left // len(numbers)
    return list(reversed(backwards))


def tell(program, starts, way, picks, steps, most):
    seen = look(program, starts, way)
    told = words(program, seen)
    some = sayings_at(program, [one[:2] for one in told if one[2] == "may"])
    found = breakers(program, first_starts(starts, way[1], most), picks, steps, some)
    came = came_from(program, seen)
    return [one + told_beside(one, came, seen, found) for one in told]


def told_beside(one, came, seen, found):
    if one[2] != "may":
        return (None, None)
    return (trail_along(came, seen, one[0], one[1]), found.get(one[:2]))
