"""What a set of ranges says, as a formula: a tuple of a word and what belongs to it.

`("all",)`, `("not", part)`, `("and", part, part)`, `("or", part, part)`, `("xor", part, part)` and the statements
`("counted", key, least, most)`, `("taken", key, mantissa)`, `("coarser", key, key, number, of)` and
`("touched", key, end)` about rules. A key is a tuple `(kind, mantissas, most)`, which with a base tells a rule.
"""

from axisticks.fitting import measure
from axisticks.masks import counted_mask, touching_mask
from axisticks.rules import Rule

PARTS = {"all": 0, "not": 1, "and": 2, "or": 2, "xor": 2}
KEYS = {"counted": 1, "taken": 1, "coarser": 2, "touched": 1}


def key_of(rule):
    return rule.kind, tuple(rule.mantissas), rule.most


def rule_of(base, key):
    kind, mantissas, most = key
    return Rule(base, kind, list(mantissas), most)


def keys_of(formula):
    """Return the keys of the rules that a formula is about, each once, in the order in which they occur."""
    word = formula[0]
    if word in KEYS:
        found = list(formula[1:1 + KEYS[word]])
    else:
        found = []
        for part in formula[1:1 + PARTS[word]]:
            found = found + keys_of(part)
    return list({key: True for key in found})


def compare_steps(base, one, other):
    """Return two whole numbers that are to each other as two steps are."""
    digits = max(0, -min(int(one[1]), other[1]))
    return measure(base, one, digits)[1], measure(base, other, digits)[1]


def holds(base, formula, span):
    """Tell whether a range is a member of the set of a formula."""
    word = formula[0]
    if word == "all":
        return True
    if word == "not":
        return not holds(base, formula[1], span)
    if word in PARTS:
        one = holds(base, formula[1], span)
        other = holds(base, formula[2], span)
        if word == "and":
            return one and other
        if word == "or":
            return one or other
        return one != other
    return _states(base, formula, span)


def _states(base, formula, span):
    word = formula[0]
    rule = rule_of(base, formula[1])
    if word == "counted":
        count = rule.count(span)
        return count >= formula[2] and (formula[3] is None or count <= formula[3])
    step = rule.step(span)
    if word == "taken":
        return step[0] == formula[2]
    if word == "touched":
        factor, size = measure(base, step, span[2])
        end = span[0] if formula[2] == "low" else span[1]
        return end * factor % size == 0
    other = rule_of(base, formula[2]).step(span)
    size, other_size = compare_steps(base, step, other)
    return size * formula[4] > formula[3] * other_size


def mask_of(formula, row):
    """Return the mask of the low ends of the members in a row (see `axisticks.rows`)."""
    word = formula[0]
    full = row[1]
    if word == "all":
        return full
    if word == "not":
        return full ^ mask_of(formula[1], row)
    if word in PARTS:
        one = mask_of(formula[1], row)
        other = mask_of(formula[2], row)
        if word == "and":
            return one & other
        if word == "or":
            return one | other
        return one ^ other
    return _statement_mask(formula, row)


def _statement_mask(formula, row):
    word = formula[0]
    if word == "coarser":
        return _coarser_mask(formula, row)
    length, _, shares = row
    mask = 0
    for step, size, comb, taken in shares[formula[1]]:
        if word == "counted":
            wanted = counted_mask(formula[1][0], size, comb, length, formula[2], formula[3])
        elif word == "touched":
            wanted = touching_mask(size, comb, length, formula[2])
        else:
            wanted = taken if step[0] == formula[2] else 0
        mask = mask | (taken & wanted)
    return mask


def _coarser_mask(formula, row):
    _, one, other, number, of = formula
    shares = row[2]
    mask = 0
    for _, size, _, taken in shares[one]:
        for _, other_size, _, other_taken in shares[other]:
            if size * of > number * other_size:
                mask = mask | (taken & other_taken)
    return mask
