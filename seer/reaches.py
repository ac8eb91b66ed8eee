"""Reaches: where steps lead from a first place on."""


def reached(first, steps_from):
    # Each place that is reached, with the one from which it was reached first.
    came = {first: None}
    waiting = [first]
    while len(waiting) > 0:
        here = waiting.pop(0)
        for there in steps_from(here):
            if there not in came:
                came[there] = here
                waiting.append(there)
    return came
