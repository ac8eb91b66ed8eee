"""What the tests of all modules ask of the kinds of told values."""


def is_whole(value):
    return type(value) is int


def is_end(value):
    return value is None or is_whole(value)


def is_stretch(value):
    return type(value) is tuple and len(value) == 2 and all(is_end(end) for end in value)


def is_rest(value):
    if type(value) is not tuple or len(value) != 2 or not all(is_whole(part) for part in value):
        return False
    return value[0] == 0 or 0 <= value[1] < value[0]


def is_sum(value):
    return type(value) is list and len(value) > 0 and all(is_whole(part) for part in value)
