"""Ranges that rules widen in rounds.

A range stands here as `(low, high, power)` for the numbers from `low * base ** power` to `high * base ** power`,
where not both ends are divisible by the base: ranges that differ by a power of the base have equal ends.
"""

from axisticks.fitting import measure
from axisticks.powers import power_of


def shape_of(base, span):
    """Return a range `(low, high, digits)` as `(low, high, power)`."""
    low, high, digits = span
    power = -digits
    while low % base == 0 and high % base == 0:
        low = low // base
        high = high // base
        power = power + 1
    return low, high, power


def span_of(base, shape):
    """Return the reduced range `(low, high, digits)` of a shape."""
    low, high, power = shape
    if power < 0:
        return low, high, -power
    factor = power_of(base, power)
    return low * factor, high * factor, 0


def widen(rule, span):
    """Return the range from the first to the last mark of a range, perhaps told with more digits than it needs."""
    low, high, digits = span
    step = rule.step(span)
    factor, size = measure(rule.base, step, digits)
    low = low * factor // size * size
    high = -(-high * factor // size) * size
    return low, high, max(int(digits), -step[1])


def next_shape(rules, shape):
    """Return the shape behind a round."""
    base = rules[0].base
    low, high, power = shape
    span = (low, high, 0)
    for rule in rules:
        span = widen(rule, span)
    low, high, more = shape_of(base, span)
    return low, high, power + more


def shape_behind(rules, shape, rounds):
    """Return the shape behind so many rounds."""
    for _ in range(rounds):
        following = next_shape(rules, shape)
        if following == shape:
            return shape
        shape = following
    return shape


def course(rules, shape):
    """Return `(before, turn, power, shape)`: what is behind `before` rounds comes back behind `turn` rounds more.

    It comes back multiplied by the base to this power, which is 0 if the range rests; the shape is the one behind
    `before` rounds, of which there are as few as possible.
    """
    seen = {}
    rounds = 0
    # Ranges only grow: in the end each one rests, or its ends are few multiples of a great step about 0.
    while shape[:2] not in seen:
        seen[shape[:2]] = (rounds, shape)
        shape = next_shape(rules, shape)
        rounds = rounds + 1
    before, earlier = seen[shape[:2]]
    return before, rounds - before, shape[2] - earlier[2], earlier
