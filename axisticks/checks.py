"""What counts as a whole number, as a base and as a range."""


def is_whole(value):
    """Tell whether a value is an integer and no Boolean."""
    return isinstance(value, int) and not isinstance(value, bool)


def is_base(value):
    """Tell whether a value is a base."""
    return is_whole(value) and value >= 2


def is_span(value):
    """Tell whether a value is a range `(low, high, digits)`."""
    if not isinstance(value, tuple) or len(value) != 3:
        return False
    if not all([is_whole(number) for number in value]):
        return False
    low, high, digits = value
    return low < high and digits >= 0
