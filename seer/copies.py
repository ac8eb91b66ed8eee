"""Copies: what is handed on is nobody else's."""


def fresh(thing):
    # Lists can be changed by whoever has them, so none is handed on.
    if isinstance(thing, list):
        return [fresh(part) for part in thing]
    if isinstance(thing, tuple):
        return tuple([fresh(part) for part in thing])
    return thing
