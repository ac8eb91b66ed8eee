"""What the tests of all modules ask of the kinds of told values."""


def is_whole(value):
    return type(value) is int


def is_end(value):
    return value is None or is_whole(value)


def is_stretch(value):
    return type(value) is tuple and len(value) == 2 and all(is_end(end) for end in value)
