"""Sets of low ends as masks: bit `low` of a whole number tells whether this low end is in it.

A comb of a step has a bit at each multiple of it; a mask that repeats with the step is made of shifted combs.
"""


def comb_of(size, width):
    """Return the mask of the multiples of a size below a width that it divides."""
    comb = 1
    have = size
    while have < width:
        comb = comb | (comb << have)
        have = 2 * have
    return comb & ((1 << width) - 1)


def residues(comb, first, past):
    """Return the mask of the low ends that are from `first` up to below `past` above a multiple of the step."""
    if past <= first:
        return 0
    return (comb << past) - (comb << first)


def lowest_bit(mask):
    """Return the least low end of a mask that is not empty."""
    return (mask & -mask).bit_length() - 1


def fitting_mask(kind, most, size, comb, length):
    """Return the mask of the low ends of ranges of a length that a step fits."""
    room = most * size - length
    if kind == "length":
        return residues(comb, 0, size) if room >= 0 else 0
    if kind == "cover":
        return residues(comb, 0, min(int(size), room + 1))
    if room > 0:
        return residues(comb, 0, size)
    return residues(comb, 1, size + room)


def counts_by_residue(kind, size, length):
    """Return tuples `(first, past, count)`: the marks of the ranges with such low ends above a multiple.

    The pieces may reach beyond the size or be empty where there are no such low ends.
    """
    whole, rest = divmod(length, size)
    if kind == "cover":
        at_mark = whole + 1 if rest == 0 else whole + 2
        return [(0, 1, at_mark), (1, size - rest + 1, whole + 2), (size - rest + 1, size, whole + 3)]
    return [(0, 1, whole + 1), (1, size - rest, whole), (size - rest, size, whole + 1)]


def counted_mask(kind, size, comb, length, least, most):
    """Return the mask of the low ends of ranges of a length with so many marks, `most` is `None` for any number."""
    mask = 0
    for first, past, count in counts_by_residue(kind, size, length):
        if count >= least and (most is None or count <= most):
            mask = mask | residues(comb, first, min(int(size), past))
    return mask


def touching_mask(size, comb, length, end):
    """Return the mask of the low ends of ranges of a length of which an end is a multiple of the step."""
    if end == "low":
        return comb
    return comb << (-length % size)
