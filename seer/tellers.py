"""The teller: what is told of sayings by a look, and how places are reached by it."""

from seer.calls import argued
from seer.outcomes import outcome
from seer.reaches import reached
from seer.rows import program_rows, rows_of
from seer.tolds import stretches_of


def sayings(program):
    # Places rise as statements are written, and so do the rows of sayings.
    found = []
    for number, function in enumerate(program):
        rows = rows_of(function[2])
        found.extend([(number, here, act[1]) for here, act, there in rows if act[0] == "say"])
    return found


def words(program, seen):
    return [(number, place, word(told_at(seen, number, place), claim)) for number, place, claim in sayings(program)]


def told_at(seen, number, place):
    held = seen[2]
    return held[number][place]


def word(told, claim):
    if told is None:
        return "never"
    # It is no call, so no summary is asked for.
    if outcome(told, ("when", claim, False), []) is None:
        return "always"
    return "may"


def trail(program, seen, function, place):
    return trail_along(came_from(program, seen), seen, function, place)


def trail_along(came, seen, function, place):
    if told_at(seen, function, place) is None:
        return None
    back = []
    here = (function, place)
    while here is not None:
        back.append(here)
        here = came[here]
    return [(number, spot, stretches_of(told_at(seen, number, spot))) for number, spot in reversed(back)]


def came_from(program, seen):
    ways_on = program_rows(program)
    return reached((len(program) - 1, 0), lambda here: steps_from(program, ways_on, seen, here))


def steps_from(program, ways_on, seen, here):
    number = here[0]
    told = told_at(seen, number, here[1])
    summaries = seen[1]
    steps = []
    for place, act, there in ways_on[number][here[1]]:
        if outcome(told, act, summaries) is not None:
            steps.append((number, there))
        if act[0] == "call" and argued(told, act[3], program[act[2]][1]) is not None:
            steps.append((act[2], 0))
    return steps
