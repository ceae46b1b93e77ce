"""The ranges of one whole length with whole low ends, of any size.

A line is a tuple `(row, width, stride, pace, spots)`: a row (see `axisticks.rows`) and where the whole low ends are
in it. They repeat with each `stride` of quarters, which is `pace` long in whole numbers; a spot `(quarter, low,
many)` tells that a quarter stands for so many whole low ends, of which `low` is the least.
"""

from math import gcd

from axisticks.formulas import keys_of, mask_of
from axisticks.ladder import candidates
from axisticks.masks import comb_of, lowest_bit
from axisticks.powers import power_of
from axisticks.rows import UNIT, digits_of, quartered, row_of, sized


def line_of(base, keys, length):
    """Return the line of a whole length for rules with these keys."""
    steps = {key: candidates(base, key, length, length) for key in keys}
    digits = digits_of(steps)
    one = power_of(base, digits)
    ladders = {key: sized(base, steps[key], digits) for key in keys}
    unit = _unit_of(ladders, one, digits)
    stride = UNIT * one // unit if digits > 0 else UNIT
    width, combed = quartered(ladders, unit, stride)
    whole, rest = divmod(length * one, unit)
    row = row_of(UNIT * whole + (2 if rest > 0 else 0), width, combed)
    if digits > 0:
        return row, width, stride, 1, [(0, 0, 1)]
    return row, width, stride, unit, _spots(unit, -length % unit)


def _unit_of(ladders, one, digits):
    """Return the unit of all sizes, and of 1 if they are told with digits, so that each whole number is a multiple."""
    unit = one if digits > 0 else 0
    for key in ladders:
        for _, size in ladders[key]:
            unit = gcd(unit, size)
    return one if unit == 0 else unit


def _spots(unit, turn):
    """Return the spots of a unit in which the high end passes a multiple if the low end is `turn` above one."""
    if turn == 0:
        spots = [(0, 0, 1), (1, 1, unit - 1)]
    else:
        spots = [(0, 0, 1), (1, 1, turn - 1), (2, turn, 1), (3, turn + 1, unit - turn - 1)]
    return [spot for spot in spots if spot[2] > 0]


def first_low(base, formula, length):
    """Return the least low end of at least 0 of a member of this whole length with whole ends, `None` without one."""
    row, width, stride, pace, spots = line_of(base, keys_of(formula), length)
    mask = mask_of(formula, row)
    if mask == 0:
        return None
    comb = comb_of(stride, width)
    standing = 0
    for quarter, _, _ in spots:
        standing = standing | (comb << quarter)
    mask = mask & standing
    if mask == 0:
        return None
    strides, place = divmod(lowest_bit(mask), stride)
    lows = {quarter: low for quarter, low, _ in spots}
    return strides * pace + lows[place]


def bits_of(mask, width):
    """Return a mask as a text of 0 and 1, the lowest bit first."""
    return f"{mask:b}"[::-1].ljust(width, "0")


def runs_of(line, labels):
    """Return tuples `(label, many)`: how many whole low ends in a row have a label, by a label for each quarter.

    They are told for low ends from 0 on until they repeat, in as few runs as possible if the last meets the first.
    """
    _, width, stride, _, spots = line
    runs = []
    for start in range(0, width, stride):
        for quarter, _, many in spots:
            label = labels[start + quarter]
            if len(runs) > 0 and runs[-1][0] == label:
                runs[-1] = (label, runs[-1][1] + many)
            else:
                runs.append((label, many))
    if len(runs) > 1 and runs[0][0] == runs[-1][0]:
        label, many = runs.pop()
        runs[0] = (label, runs[0][1] + many)
    return runs


def least_turn(runs):
    """Return the first of the runs of a circle that repeat until they close it, as few as possible."""
    if len(runs) == 1:
        return [(runs[0][0], 1)]
    # borders[k] is the length of the longest beginning of runs[:k + 1] that is also its end, but not all of it.
    borders = [0]
    for run in runs[1:]:
        border = borders[-1]
        while border > 0 and runs[border] != run:
            border = borders[border - 1]
        borders.append(border + 1 if runs[border] == run else 0)
    turn = len(runs) - borders[-1]
    return runs[:turn] if len(runs) % turn == 0 else runs
