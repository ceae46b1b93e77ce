"""Sets of ranges beside what they say, told by the definitions with fractions of any kind."""

import random
from fractions import Fraction
from functools import lru_cache
from math import ceil, floor

from axisticks.rules import Rule
from axisticks.sets import RangeSet, coarser, counted, taken, touched
from samples import told


def value_of(base, step):
    mantissa, power = step
    return mantissa * Fraction(base) ** power


def ends(base, span):
    low, high, digits = span
    return Fraction(low, base ** digits), Fraction(high, base ** digits)


def marks_with(kind, size, low, high):
    """Return the first and the last mark of a range as multiples of a step of this size."""
    if kind == "cover":
        return floor(low / size), ceil(high / size)
    return ceil(low / size), floor(high / size)


def fits(rule, size, low, high):
    if rule.kind == "length":
        return high - low <= rule.most * size
    first, last = marks_with(rule.kind, size, low, high)
    return (last - first if rule.kind == "cover" else last - first + 1) <= rule.most


@lru_cache(maxsize=None)
def steps_near(base, mantissas, many):
    """List all steps by size, those of length 1 in the middle, with so many powers of the base on both sides."""
    steps = [(mantissa, power) for mantissa in mantissas for power in range(-many, many)]
    return sorted((value_of(base, step), step) for step in steps)


@lru_cache(maxsize=200000)
def _step_of(base, kind, mantissas, most, low, high):
    rule = Rule(base, kind, list(mantissas), most)
    for size, step in steps_near(base, mantissas, 12):
        if size * (most + 2) > high - low and fits(rule, size, low, high):
            return step
    raise AssertionError("lengths of models are near 1")


def step_of(rule, low, high):
    return _step_of(rule.base, rule.kind, tuple(rule.mantissas), rule.most, low, high)


def count_of(rule, low, high):
    first, last = marks_with(rule.kind, value_of(rule.base, step_of(rule, low, high)), low, high)
    return last - first + 1


class Model:
    """A set of ranges with the function that tells by the definitions whether low and high are a member."""

    def __init__(self, held, has, words, rules):
        self.held = held
        self.has = has
        self.words = words
        self.rules = rules

    def joined(self, sign, other):
        held, has, more = {
            "&": (lambda: self.held & other.held, lambda one, two: one and two, None),
            "|": (lambda: self.held | other.held, lambda one, two: one or two, None),
            "-": (lambda: self.held - other.held, lambda one, two: one and not two, None),
            "^": (lambda: self.held ^ other.held, lambda one, two: one != two, None),
        }[sign]
        words = "({} {} {})".format(self.words, sign, other.words)
        rules = self.rules + [rule for rule in other.rules if rule not in self.rules]
        return Model(held(), lambda low, high: has(self.has(low, high), other.has(low, high)), words, rules)

    def inverted(self):
        return Model(~self.held, lambda low, high: not self.has(low, high), "~" + self.words, self.rules)


def every(base):
    return Model(RangeSet.every(base), lambda low, high: True, "every({})".format(base), [])


def counted_model(rule, least, most):
    def has(low, high):
        return least <= count_of(rule, low, high) and (most is None or count_of(rule, low, high) <= most)
    return Model(counted(rule, least, most), has, "counted({}, {}, {})".format(told(rule), least, most), [rule])


def taken_model(rule, mantissa):
    def has(low, high):
        return step_of(rule, low, high)[0] == mantissa
    return Model(taken(rule, mantissa), has, "taken({}, {})".format(told(rule), mantissa), [rule])


def coarser_model(one, other, times):
    def has(low, high):
        size = value_of(one.base, step_of(one, low, high))
        return size > Fraction(*times) * value_of(other.base, step_of(other, low, high))
    words = "coarser({}, {}, {})".format(told(one), told(other), times)
    return Model(coarser(one, other, times), has, words, [one] if one == other else [one, other])


def touched_model(rule, end):
    def has(low, high):
        return ((low if end == "low" else high) / value_of(rule.base, step_of(rule, low, high))).denominator == 1
    return Model(touched(rule, end), has, "touched({}, {})".format(told(rule), end), [rule])


def atoms_of(rules):
    """List statements of all sorts about some rules."""
    found = []
    for rule in rules:
        found.extend(taken_model(rule, mantissa) for mantissa in rule.mantissas)
        found.extend([touched_model(rule, "low"), touched_model(rule, "high")])
        top = rule.most
        for least, most in ((0, 0), (1, top - 1), (2, None), (top, top), (top + 1, None), (3, 1), (0, 1)):
            found.append(counted_model(rule, least, most))
        for other in rules:
            for times in ((1, 1), (1, 2), (3, 2), (6, 3)):
                found.append(coarser_model(rule, other, times))
    return found


def drawn_rules(draw, base, many):
    """Draw rules of a base whose mantissas have a least common multiple of at most 30."""
    multiple = draw.choice([one for one in range(1, 31) if one % base != 0])
    mantissas = [one for one in range(1, multiple + 1) if multiple % one == 0 and one % base != 0]
    rules = []
    for _ in range(many):
        kind = draw.choice(["inside", "cover", "length"])
        chosen = draw.sample(mantissas, min(len(mantissas), draw.randint(1, 4)))
        rules.append(Rule(base, kind, chosen, draw.randint(2 if kind == "cover" else 1, 6)))
    return rules


def drawn_atom(draw, rules):
    rule, other = draw.choice(rules), draw.choice(rules)
    sort = draw.randrange(4)
    if sort == 0:
        least = draw.randint(0, rule.most)
        return counted_model(rule, least, draw.choice([None, least, least + 1]))
    if sort == 1:
        return taken_model(rule, draw.choice(rule.mantissas))
    if sort == 2:
        return coarser_model(rule, other, draw.choice([(1, 1), (1, 2), (2, 1), (3, 2), (4, 2), (5, 3)]))
    return touched_model(rule, draw.choice(["low", "high"]))


def drawn_model(draw, rules, operators):
    """Draw a set that is made of statements about some rules with so many operators."""
    if operators == 0:
        return drawn_atom(draw, rules)
    sign = draw.choice("~&|-^")
    if sign == "~":
        return drawn_model(draw, rules, operators - 1).inverted()
    left = draw.randrange(operators)
    return drawn_model(draw, rules, left).joined(sign, drawn_model(draw, rules, operators - 1 - left))


def drawn_models(seed, many, most_operators=12):
    """Draw sets of all bases, with up to three rules and up to so many operators; the same ones each time."""
    draw = random.Random(seed)
    models = []
    for _ in range(many):
        rules = drawn_rules(draw, draw.randint(2, 10), draw.randint(1, 3))
        models.append(drawn_model(draw, rules, draw.randint(0, most_operators)))
    return models


def drawn_spans(draw, base, many):
    """Draw ranges of lengths near 1, with low ends of all signs and often at multiples of the base."""
    spans = []
    for _ in range(many):
        digits = draw.randint(0, 4)
        length = draw.randint(1, base ** draw.randint(1, digits + 2))
        low = draw.randint(-base ** 5, base ** 5) // draw.choice([1, 1, 2, 3, base, base ** 3])
        low *= draw.choice([1, base, base ** 2])
        spans.append((low, low + length, digits))
    return spans


def counting_sizes(rules, length):
    """List the steps that may be taken at a length: those greater than all these are never the least that fits."""
    sizes = []
    for rule in rules:
        for size, _ in steps_near(rule.base, tuple(rule.mantissas), 12):
            if size * (rule.most + 1) >= length:
                sizes.append(size)
            if size > length:
                break
    return sizes


def common_multiple(sizes):
    number, of = 1, 1
    for size in sizes:
        of = _lcm(of, size.denominator)
    for size in sizes:
        number = _lcm(number, int(size * of))
    return Fraction(number, of)


def _lcm(one, other):
    rest, divisor = one, other
    while rest:
        rest, divisor = divisor % rest, rest
    return one // divisor * other


def lows_to_try(rules, length):
    """List low ends that stand for all: where an end meets a multiple of a step, and between two such, in turn.

    Whether a range is a member can only change where an end passes a multiple of a step that may be taken.
    """
    sizes = counting_sizes(rules, length)
    turn = common_multiple(sizes)
    lows = {Fraction(0), turn}
    for size in set(sizes):
        for number in range(int(turn / size)):
            lows.add(number * size)
            lows.add((number * size - length) % turn)
    ordered = sorted(lows)
    between = [(low + above) / 2 for low, above in zip(ordered, ordered[1:])]
    return ordered[:-1], between
