"""The lengths at which ranges are members of a set, and the simplest member."""

from axisticks.formulas import keys_of, mask_of
from axisticks.lines import first_low
from axisticks.powers import power_of
from axisticks.rows import UNIT, lengths_of_rows, row_of


def reduced(base, number, digits):
    """Return a number that is told with digits as `(number, digits)` with as few of them as possible."""
    while digits > 0 and number % base == 0:
        number = number // base
        digits = digits - 1
    return number, digits


def _rows_told(base, formula, sure):
    """Return ascending tuples `(digits, length, single, told)` for the rows of lengths from 1 up to below the base.

    A single length is this length, told with digits; otherwise the row stands for the lengths from there up to the
    next single one. Told is whether some ranges of the row are members, or with `sure` whether all are.
    """
    rows = []
    for digits, unit, length, width, ladders in lengths_of_rows(base, keys_of(formula)):
        row = row_of(length, width, ladders)
        mask = mask_of(formula, row)
        told = mask == row[1] if sure else mask != 0
        rows.append((digits, length // UNIT * unit, length % UNIT == 0, told))
    return rows


def stretches(base, formula, sure):
    """Return the tuples `(first, last, has_first, has_last)` of the lengths with some members, or with all of them."""
    found = []
    start = None
    for digits, length, single, told in _rows_told(base, formula, sure):
        at = reduced(base, length, digits)
        if told and start is None:
            start = (at, single)
        elif start is not None and not told:
            # The row before was told: it is this single length, or it reaches up to this one.
            found.append((start[0], at, start[1], not single))
            start = None
    if start is not None:
        found.append((start[0], (base, 0), start[1], False))
    return found


def _whole_lengths(base, stretch, one):
    """Return `(least, greatest)` of the whole lengths in a stretch, its ends included, times a power of the base."""
    first, last, _, _ = stretch
    least = -(-first[0] * one // power_of(base, first[1]))
    return least, last[0] * one // power_of(base, last[1])


def simplest_member(base, formula):
    """Return the member `(low, high, 0)` of the least length, of these the one with the least low end from 0 on."""
    lengths = stretches(base, formula, False)
    if len(lengths) == 0:
        return None
    one = 1
    while True:
        for stretch in lengths:
            least, greatest = _whole_lengths(base, stretch, one)
            for length in range(least, greatest + 1):
                low = first_low(base, formula, length)
                if low is not None:
                    return low, low + length, 0
        # Each member becomes one with whole ends when it is multiplied by the base often enough.
        one = one * base
