"""Steps, marks and changes of step taken straight from the words of the document, with fractions."""

from fractions import Fraction
from math import log


def value_of(base, step):
    mantissa, power = step
    return mantissa * Fraction(base) ** power


def fits(rule, step, low, high):
    """Tell by the table of kinds whether a step fits the numbers from low to high."""
    size = value_of(rule.base, step)
    if rule.kind == "length":
        return high - low <= rule.most * size
    if rule.kind == "cover":
        return len(covering(size, low, high)) - 1 <= rule.most
    return len(inside(size, low, high)) <= rule.most


def inside(size, low, high):
    """List the whole numbers whose multiples of a step are in a range, one after the other."""
    number = int(low / size) - 2
    numbers = []
    while number * size <= high:
        if number * size >= low:
            numbers.append(number)
        number += 1
    return numbers


def covering(size, low, high):
    """List the whole numbers from the greatest multiple not above low to the least not below high."""
    number = int(low / size) - 2
    while (number + 1) * size <= low:
        number += 1
    numbers = [number]
    while numbers[-1] * size < high:
        numbers.append(numbers[-1] + 1)
    return numbers


def step(rule, span):
    """Return the least fitting step among all that could be it: smaller ones have too many multiples."""
    low, high = ends(rule.base, span)
    length = high - low
    found = []
    for mantissa in rule.mantissas:
        # Any power to begin with would do; this one saves time.
        power = int(log(length, rule.base))
        while value_of(rule.base, (mantissa, power)) * (rule.most + 2) <= length:
            power += 1
        while value_of(rule.base, (mantissa, power)) * (rule.most + 2) > length:
            power -= 1
        while value_of(rule.base, (mantissa, power)) < (rule.base + 1) * length:
            if fits(rule, (mantissa, power), low, high):
                found.append((mantissa, power))
            power += 1
    return min(found, key=lambda one: value_of(rule.base, one))


def ends(base, span):
    low, high, digits = span
    return Fraction(low, base ** digits), Fraction(high, base ** digits)


def marks(rule, span):
    low, high = ends(rule.base, span)
    size = value_of(rule.base, step(rule, span))
    if rule.kind == "cover":
        numbers = covering(size, low, high)
        return numbers[0], numbers[-1]
    numbers = inside(size, low, high)
    if numbers:
        return numbers[0], numbers[-1]
    first = int(low / size) - 2
    while first * size <= high:
        first += 1
    return first, first - 1


def steps_from(rule, low, most_high):
    changes = []
    for high in range(low + 1, most_high + 1):
        taken = step(rule, (low, high, 0))
        if not changes or changes[-1][1] != taken:
            changes.append((high, taken))
    return changes
