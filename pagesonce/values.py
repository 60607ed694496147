"""What kinds of values arguments are."""


def is_integer(value):
    """Whether a value is an integer; True and False are none."""
    return isinstance(value, int) and not isinstance(value, bool)


def is_number(value, least, most):
    """Whether a value is an integer from least to most."""
    return is_integer(value) and least <= value <= most


def is_flag(value):
    """Whether a value is True or False; 1 and 0 are neither."""
    return value is True or value is False


def is_sequence(value):
    """Whether a value is a list or a tuple."""
    return isinstance(value, (list, tuple))


def is_told(value):
    """Whether a value is ("told", True) or ("told", False)."""
    return is_sequence(value) and len(value) == 2 and value[0] == "told" and is_flag(value[1])
