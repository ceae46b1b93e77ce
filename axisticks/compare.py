"""How the steps of two rules are to each other, and the marks and steps of one over all its ranges."""

from axisticks.arguments import check_number, check_rule, check_rules_of_one_base
from axisticks.formulas import key_of
from axisticks.lines import bits_of, least_turn, line_of, runs_of
from axisticks.rows import ratios
from axisticks.sets import coarser, counted


def _simplest_with_ratio(one, other, ratio):
    number, of = ratio
    unequal = coarser(one, other, (number, of)) | coarser(other, one, (of, number))
    return (~unequal).simplest()


def greatest_ratio(one, other):
    """Return `(ratio, span)`: the greatest that the step of one rule divided by that of another is, and where."""
    check_rules_of_one_base(one, other)
    best = None
    for number, of in ratios(one.base, key_of(one), key_of(other)):
        if best is None or number * best[1] > best[0] * of:
            best = (number, of)
    return best, _simplest_with_ratio(one, other, best)


def least_ratio(one, other):
    """Return `(ratio, span)`: the least that the step of one rule divided by that of another is, and where."""
    check_rules_of_one_base(one, other)
    (number, of), span = greatest_ratio(other, one)
    return (of, number), span


def extremes(rule):
    """Return `(least, most)`: the least and the greatest number of marks, each as `(count, span)`."""
    check_rule(rule)
    found = []
    # No kind allows more than one mark more than its greatest number of multiples or steps.
    for count in range(rule.most + 2):
        span = counted(rule, count, count).simplest()
        if span is not None:
            found.append((count, span))
    return found[0], found[-1]


def panned(rule, length):
    """Return `(period, steps)`: how many ranges of a whole length take which step, up to where the steps repeat."""
    check_rule(rule)
    check_number(length, 1)
    key = key_of(rule)
    line = line_of(rule.base, [key], length)
    shares = line[0][2][key]
    labels = [0] * line[1]
    for place, (_, _, _, taken) in enumerate(shares):
        for low, bit in enumerate(bits_of(taken, line[1])):
            if bit == "1":
                labels[low] = place
    many = [0] * len(shares)
    for place, times in least_turn(runs_of(line, labels)):
        many[place] = many[place] + times
    steps = [(shares[place][0], many[place]) for place in range(len(shares)) if many[place] > 0]
    return sum(many), steps
