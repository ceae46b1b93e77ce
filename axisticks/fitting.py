"""How far ranges may reach that a step fits, in whole numbers."""

from axisticks.powers import power_of


def measure(base, step, digits):
    """Return `(factor, size)`, both whole numbers.

    Ends that are told with so many digits are multiplied by the factor; the step is `size` long beside them.
    """
    mantissa, power = step
    exponent = power + digits
    if exponent >= 0:
        return 1, mantissa * power_of(base, exponent)
    return power_of(base, -exponent), mantissa


def reach(kind, most, low, size):
    """Return the greatest whole high end with which steps of a size fit the range from a low end on.

    A step that fits a range also fits each shorter one with the same low end, so this end tells all of them.
    """
    if kind == "length":
        return low + most * size
    if kind == "cover":
        return (low // size + most) * size
    return (-(-low // size) + most) * size - 1


def never_fits(kind, most, size, length):
    """Tell whether steps of a size fit no range of a length, wherever its ends are."""
    if kind == "inside":
        return length >= (most + 1) * size
    return length > most * size


def always_fits(kind, most, size, length):
    """Tell whether steps of a size fit all ranges of a length, wherever their ends are."""
    if kind == "inside":
        return length < most * size
    if kind == "cover":
        return length <= (most - 1) * size
    return length <= most * size
