import random
import unittest

import models
from axisticks.rules import Rule
from axisticks.sets import RangeSet, coarser, counted, taken, touched

TENS = Rule(10, "inside", [1, 2, 5], 5)
FORTY = 10 ** 39 + 1234567890123456789012345678901234567


def groups():
    """List rules that are asked about together."""
    return [
        [TENS, Rule(10, "length", [1, 2, 5], 5)],
        [Rule(10, "cover", [1, 3], 4), Rule(10, "inside", [2, 15], 1)],
        [Rule(2, "cover", [1], 4), Rule(2, "cover", [3], 2)],
        [Rule(2, "inside", [1, 3, 5, 15], 6)],
        [Rule(3, "length", [2, 5, 10], 1), Rule(3, "inside", [1], 2)],
        [Rule(6, "cover", [1, 2, 3], 2)],
        [Rule(7, "inside", [1, 25], 3)],
        [Rule(4, "length", [1, 2, 6], 6)],
    ]


def spans_for(base):
    """List ranges below, at and above 0, of few and many digits, with ends at multiples of steps."""
    spans = [(low, low + length, digits)
             for low in (-2 * base, -3, -1, 0, 1, 2, base - 1, base, 5 * base ** 2)
             for length in (1, 2, 3, base, base + 1, 2 * base)
             for digits in (0, 2)]
    return spans + models.drawn_spans(random.Random(base), base, 60)


class Membership(unittest.TestCase):
    """[40] to [45]: `in`, against the definitions."""

    def check(self, model, span):
        base = model.held.base
        expected = model.has(*models.ends(base, span))
        self.assertIs(span in model.held, expected, (model.words, span))

    def test_statements_about_rules(self):
        for rules in groups():
            for model in models.atoms_of(rules):
                for span in spans_for(rules[0].base):
                    self.check(model, span)

    def test_drawn_sets(self):
        draw = random.Random(40)
        for model in models.drawn_models(41, 150):
            for span in models.drawn_spans(draw, model.held.base, 25):
                self.check(model, span)

    def test_each_operator(self):
        one, other = models.touched_model(TENS, "low"), models.counted_model(TENS, 3, 4)
        for sign in "&|-^":
            for model in (one.joined(sign, other), other.joined(sign, one), one.joined(sign, one)):
                for span in spans_for(10):
                    self.check(model, span)
        for span in spans_for(10):
            self.check(one.inverted(), span)
            self.check(one.inverted().inverted(), span)

    def test_every(self):
        for base in (2, 3, 10, 16):
            for span in spans_for(base):
                self.assertIs(span in RangeSet.every(base), True)
                self.assertIs(span in ~RangeSet.every(base), False)
                self.assertIs(span not in RangeSet.every(base), False)

    def test_the_examples_of_the_document(self):
        self.assertIs((3, 10, 0) in touched(TENS, "low"), False)
        self.assertIs((0, 2, 0) in counted(TENS, 5, 5), True)


class SameRanges(unittest.TestCase):
    """[10], [40]: what leaves the membership as it is."""

    def test_the_same_range_told_with_more_digits(self):
        draw = random.Random(3)
        for model in models.drawn_models(42, 60):
            base = model.held.base
            for low, high, digits in models.drawn_spans(draw, base, 10):
                expected = (low, high, digits) in model.held
                for more in (1, 2, 7):
                    span = (low * base ** more, high * base ** more, digits + more)
                    self.assertIs(span in model.held, expected, (model.words, span))

    def test_times_a_power_of_the_base(self):
        draw = random.Random(4)
        for model in models.drawn_models(43, 60):
            base = model.held.base
            for low, high, digits in models.drawn_spans(draw, base, 10):
                expected = (low, high, digits) in model.held
                for span in ((low * base, high * base, digits), (low, high, digits + 1), (low, high, digits + 9),
                             (low * base ** 20, high * base ** 20, digits)):
                    self.assertIs(span in model.held, expected, (model.words, span))

    def test_moved_by_a_common_multiple_of_the_steps(self):
        draw = random.Random(5)
        for model in models.drawn_models(44, 60):
            base = model.held.base
            for low, high, digits in models.drawn_spans(draw, base, 10):
                length = models.Fraction(high - low, base ** digits)
                steps = []
                for rule in model.rules:
                    near = models.steps_near(base, tuple(rule.mantissas), 12)
                    steps.extend(size for size, _ in near if length <= size * base ** 2 and size <= base * length)
                turn = models.common_multiple(steps) * base ** 12
                self.assertEqual(turn.denominator, 1)
                for times in (1, -1, 5, 10 ** 20):
                    more = int(turn) * times * base ** digits
                    expected = (low, high, digits) in model.held
                    self.assertIs((low + more, high + more, digits) in model.held, expected, model.words)


class Limits(unittest.TestCase):
    """[3]: forty digits, a third number of 20, four mantissas, a `most` of 6, three rules, 12 operators."""

    def test_forty_digits_behave_like_the_ranges_that_they_are_told_from(self):
        rules = [Rule(10, "inside", [1, 2, 3, 5], 6), Rule(10, "cover", [1, 3, 6, 15], 6), Rule(10, "length", [2], 6)]
        draw = random.Random(6)
        for _ in range(40):
            model = models.drawn_model(draw, rules, 12)
            for low, high, _ in models.drawn_spans(draw, 10, 6):
                expected = model.has(models.Fraction(low), models.Fraction(high))
                far = 3 * 10 ** 38
                for span in ((low + far, high + far, 0), (low - far, high - far, 0),
                             (low * 10 ** 30, high * 10 ** 30, 20), (low * 10 ** 20 + far, high * 10 ** 20 + far, 20)):
                    self.assertIs(span in model.held, expected, (model.words, span))

    def test_written_out(self):
        self.assertIs((FORTY, FORTY + 7, 0) in touched(TENS, "low"), FORTY % 2 == 0)
        self.assertIs((-FORTY, FORTY, 0) in counted(TENS, 5, 5), True)
        self.assertIs((-FORTY, FORTY, 20) in taken(TENS, 5), True)
        self.assertIs((0, 4 * 10 ** 38, 20) in touched(TENS, "high"), True)
        self.assertIs((1, 4 * 10 ** 38, 20) in touched(TENS, "low"), False)


class Borders(unittest.TestCase):
    """[42] to [45]: edges that the document names."""

    def test_counted_without_most_has_no_upper_bound(self):
        self.assertEqual(counted(TENS, 2), counted(TENS, 2, 5))
        self.assertEqual(counted(TENS, 2, None), counted(TENS, 2, 10 ** 30))
        self.assertEqual(counted(TENS, 0), RangeSet.every(10))
        self.assertFalse(counted(TENS, 10 ** 30))

    def test_counted_with_most_less_than_least_has_no_members(self):
        for least, most in ((1, 0), (5, 4), (3, 0)):
            self.assertIs(bool(counted(TENS, least, most)), False)

    def test_no_marks_at_all(self):
        lone = Rule(10, "inside", [1], 1)
        self.assertIs((2, 4, 0) in counted(lone, 0, 0), True)
        self.assertIs((2, 10, 0) in counted(lone, 0, 0), False)
        self.assertIs((2, 10, 0) in counted(lone, 1, 1), True)

    def test_zero_is_a_multiple_of_each_step(self):
        for rules in groups():
            base = rules[0].base
            for rule in rules:
                for length in range(1, 2 * base ** 2):
                    self.assertIs((0, length, 0) in touched(rule, "low"), True)
                    self.assertIs((-length, 0, 1) in touched(rule, "high"), True)

    def test_each_range_takes_one_mantissa(self):
        for rules in groups():
            for rule in rules:
                joined = ~RangeSet.every(rule.base)
                for mantissa in rule.mantissas:
                    self.assertFalse(joined & taken(rule, mantissa))
                    joined = joined | taken(rule, mantissa)
                self.assertEqual(joined, RangeSet.every(rule.base))

    def test_a_common_divisor_of_the_factor_changes_nothing(self):
        other = Rule(10, "cover", [1, 2, 5], 3)
        for number, of in ((1, 1), (5, 2), (2, 5), (1, 2)):
            for times in (2, 3, 10 ** 30):
                self.assertEqual(coarser(TENS, other, (number, of)), coarser(TENS, other, (number * times, of * times)))

    def test_coarser_is_greater_and_not_equal(self):
        self.assertFalse(coarser(TENS, TENS))
        self.assertEqual(coarser(TENS, TENS, (99, 100)), RangeSet.every(10))
        self.assertFalse(coarser(TENS, TENS, (100, 99)))


if __name__ == "__main__":
    unittest.main()
