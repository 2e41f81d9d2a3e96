"""What is an integer, a count, or an integer in a range, told of any value."""


def is_integer(value):
    """Whether any value is an integer: True and False are none."""
    return isinstance(value, int) and not isinstance(value, bool)


def is_between(value, least, most):
    """Whether any value is an integer from least to most, both included."""
    return is_integer(value) and least <= value <= most


def is_count(value):
    """Whether any value is a non-negative integer."""
    return is_integer(value) and value >= 0
