"""All ranges of a base at once, in rows of ranges of one length.

Only the lengths from 1 up to below the base are looked at: multiplying both ends by the base changes no statement.
Between two bounds at which a rule gets other candidates for its step, all steps that count are multiples of a unit.
There a statement changes only where the low end, the high end or the length passes a multiple of the unit, so one
range stands for all that lie between the same multiples. To have whole numbers for these ranges, a unit is told as
4 quarters: the lengths of the rows are even, and at a length of `4 * k + 2` quarters the low ends between two
multiples of the unit are 1 (the high end is below a multiple), 2 (at it) and 3 (above it).

A row is a tuple `(length, full, shares)`: the mask of all low ends, and for each key of a rule the tuples
`(step, size, comb, taken)` of its steps with the masks of the low ends of the ranges that take them.
"""

from math import gcd, lcm

from axisticks.fitting import always_fits, measure, never_fits
from axisticks.formulas import keys_of, mask_of
from axisticks.ladder import candidates
from axisticks.masks import comb_of, fitting_mask
from axisticks.powers import power_of

UNIT = 4


def digits_of(ladders):
    """Return with how many digits all steps of the ladders are whole numbers."""
    digits = 0
    for key in ladders:
        for _, power in ladders[key]:
            if -power > digits:
                digits = -power
    return digits


def sized(base, steps, digits):
    """Return tuples `(step, size)` with the sizes in whole numbers that are told with so many digits."""
    return [(step, measure(base, step, digits)[1]) for step in steps]


def quartered(ladders, unit, stride):
    """Return `(width, ladders)` with the sizes in quarters of a unit, and combs.

    The width is the least common multiple of all sizes and of a stride of quarters: what rules say of low ends
    repeats with it.
    """
    width = stride
    for key in ladders:
        for _, size in ladders[key]:
            width = lcm(width, UNIT * size // unit)
    combed = {}
    for key in ladders:
        combed[key] = [(step, UNIT * size // unit, comb_of(UNIT * size // unit, width)) for step, size in ladders[key]]
    return width, combed


def row_of(length, width, ladders):
    """Return the row of the ranges of a length in quarters, with low ends up to below a width."""
    full = (1 << width) - 1
    return length, full, {key: _shares(key, ladders[key], length, full) for key in ladders}


def _shares(key, ladder, length, full):
    kind, _, most = key
    left = full
    shares = []
    for step, size, comb in ladder:
        taken = left & fitting_mask(kind, most, size, comb, length)
        if taken != 0:
            shares.append((step, size, comb, taken))
            left = left ^ taken
    return shares


def _bounds(base, ladders, digits):
    """Return the ascending lengths from 1 to the base at which a step starts or stops to be a candidate."""
    first = power_of(base, digits)
    bounds = {first: True, base * first: True}
    for key in ladders:
        kind, _, most = key
        times = {"inside": (most, most + 1), "cover": (most - 1, most), "length": (most,)}[kind]
        for _, size in ladders[key]:
            for many in times:
                if first < many * size < base * first:
                    bounds[many * size] = True
    return sorted(bounds, key=int)


def _counting(key, steps, first, past):
    """Return the steps that are candidates at lengths from `first` up to below `past`, which is a bound."""
    kind, _, most = key
    counting = []
    for step, size in steps:
        if not never_fits(kind, most, size, first):
            counting.append((step, size))
        # The bounds are whole, so that half of one below the upper bound stands for all lengths below it.
        if always_fits(kind, most, 2 * size, 2 * past - 1):
            return counting
    return counting


def lengths_of_rows(base, keys):
    """Return tuples `(digits, unit, length, width, ladders)` for rows of ascending lengths, from 1 up to the base.

    The unit is told with the digits, the length in quarters of it.
    """
    steps = {key: candidates(base, key, 1, base) for key in keys}
    digits = digits_of(steps)
    ladders = {key: sized(base, steps[key], digits) for key in keys}
    bounds = _bounds(base, ladders, digits)
    found = []
    for first, past in zip(bounds, bounds[1:]):
        counting = {key: _counting(key, ladders[key], first, past) for key in keys}
        unit = gcd(first, past)
        for key in keys:
            for _, size in counting[key]:
                unit = gcd(unit, size)
        width, combed = quartered(counting, unit, UNIT)
        for length in range(UNIT * first // unit, UNIT * past // unit, 2):
            found.append((digits, unit, length, width, combed))
    return found


def has_members(base, formula):
    """Tell whether the set of a formula has any member."""
    for _, _, length, width, ladders in lengths_of_rows(base, keys_of(formula)):
        if mask_of(formula, row_of(length, width, ladders)) != 0:
            return True
    return False


def ratios(base, one, other):
    """Return the fractions `(number, of)` that the step of a rule divided by that of another one can be."""
    found = {}
    for _, _, length, width, ladders in lengths_of_rows(base, [one, other]):
        shares = row_of(length, width, ladders)[2]
        for _, size, _, taken in shares[one]:
            for _, other_size, _, other_taken in shares[other]:
                if taken & other_taken != 0:
                    divisor = gcd(size, other_size)
                    found[size // divisor, other_size // divisor] = True
    return list(found)
