"""Copies: what is handed on is nobody else's."""


def fresh(thing):
    # Lists can be changed by whoever has them, so none is handed on.
    if isinstance(thing, list):
        return [fresh(part) for part in thing]
    if isinstance(thing, tuple):
        return tuple([fresh(part) for part in thing])
    return thing


def laid(row, x, thing):
    # Boxes are counted from 1, the places of a list from 0.
    return row[:x - 1] + [thing] + row[x:]
