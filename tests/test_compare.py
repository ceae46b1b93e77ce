import random
import unittest
from fractions import Fraction

import counting
import models
from axisticks.compare import extremes, greatest_ratio, least_ratio, panned
from axisticks.errors import InvalidNumber, InvalidRule
from axisticks.rules import Rule
from axisticks.sets import RangeSet, coarser, counted
from samples import any_values, error_of, sample_rules, told

INSIDE, COVER = Rule(10, "inside", [1, 2, 5], 5), Rule(10, "cover", [1, 2, 5], 5)
TWOS = Rule(2, "cover", [1, 3], 4)
FORTY = 10 ** 39 + 1234567890123456789012345678901234567


def pairs():
    """List pairs of rules of one base."""
    draw = random.Random(60)
    found = [(INSIDE, COVER), (COVER, INSIDE), (INSIDE, INSIDE)]
    while len(found) < 60:
        found.append(tuple(models.drawn_rules(draw, draw.randint(2, 10), 2)))
    return found


class Ratios(unittest.TestCase):
    """[60]"""

    def test_the_example_of_the_document(self):
        self.assertEqual(greatest_ratio(INSIDE, COVER), ((5, 2), (0, 1, 0)))

    def test_written_out(self):
        self.assertEqual(greatest_ratio(INSIDE, INSIDE), ((1, 1), (0, 1, 0)))
        self.assertEqual(least_ratio(INSIDE, INSIDE), ((1, 1), (0, 1, 0)))
        one, other = Rule(10, "length", [1], 1), Rule(10, "length", [2], 1)
        # 1 takes the steps 1 and 2; from above 1 to 2 those are 10 and 2.
        self.assertEqual(greatest_ratio(one, other), ((5, 1), (0, 2, 0)))
        self.assertEqual(least_ratio(one, other), ((1, 2), (0, 1, 0)))
        self.assertEqual(greatest_ratio(other, one), ((2, 1), (0, 1, 0)))

    def test_arguments_by_name(self):
        self.assertEqual(greatest_ratio(other=COVER, one=INSIDE), greatest_ratio(INSIDE, COVER))
        self.assertEqual(least_ratio(other=COVER, one=INSIDE), least_ratio(INSIDE, COVER))

    def ratio_at(self, one, other, span):
        return Fraction(models.value_of(one.base, one.step(span)), models.value_of(one.base, other.step(span)))

    def test_against_drawn_ranges(self):
        draw = random.Random(61)
        for one, other in pairs():
            (number, of), _ = greatest_ratio(one, other)
            (low_number, low_of), _ = least_ratio(one, other)
            for span in models.drawn_spans(draw, one.base, 150):
                ratio = self.ratio_at(one, other, span)
                self.assertTrue(Fraction(low_number, low_of) <= ratio <= Fraction(number, of), (told(one), told(other)))

    def test_the_ranges_have_the_ratios_and_are_simplest(self):
        for one, other in pairs():
            for (ratio, span), below in ((greatest_ratio(one, other), False), (least_ratio(one, other), True)):
                label = (told(one), told(other), ratio, span)
                number, of = ratio
                self.assertEqual((Fraction(number, of).numerator, Fraction(number, of).denominator), ratio)
                self.assertEqual(self.ratio_at(one, other, span), Fraction(number, of), label)
                more, less = coarser(one, other, (number, of)), coarser(other, one, (of, number))
                self.assertFalse(less if below else more, label)
                self.assertEqual((~more & ~less).simplest(), span, label)

    def test_one_is_the_other_turned_round(self):
        for one, other in pairs():
            (number, of), span = greatest_ratio(one, other)
            self.assertEqual(least_ratio(other, one), ((of, number), span))

    def test_wrong_arguments(self):
        for ask in (greatest_ratio, least_ratio):
            for rule in any_values() + [5, [INSIDE], (INSIDE,), RangeSet.every(10)]:
                for arguments in ((rule, COVER), (INSIDE, rule)):
                    error = error_of(ask, *arguments)
                    self.assertEqual(error.__class__, InvalidRule)
                    self.assertIs(error.value, rule)
            self.assertIs(error_of(ask, INSIDE, TWOS).value, TWOS)
            self.assertIs(error_of(ask, TWOS, INSIDE).value, INSIDE)
            self.assertIs(error_of(ask, other="b", one="a").value, "a")


class Extremes(unittest.TestCase):
    """[61]"""

    def test_written_out(self):
        self.assertEqual(extremes(INSIDE), ((2, (2, 12, 0)), (5, (0, 2, 0))))
        self.assertEqual(extremes(rule=Rule(10, "inside", [1], 1)), ((0, (1, 2, 0)), (1, (0, 1, 0))))
        self.assertEqual(extremes(Rule(10, "cover", [1], 2)), ((2, (0, 1, 0)), (3, (0, 2, 0))))
        self.assertEqual(extremes(Rule(2, "cover", [1], 2)), ((3, (0, 1, 0)), (3, (0, 1, 0))))

    def test_against_drawn_ranges(self):
        draw = random.Random(62)
        for rule in sample_rules((1, 2, 3, 6)):
            (least, _), (most, _) = extremes(rule)
            for span in models.drawn_spans(draw, rule.base, 40):
                self.assertTrue(least <= rule.count(span) <= most, (told(rule), span))

    def test_the_ranges_have_so_many_marks_and_are_simplest(self):
        for rule in sample_rules((1, 2, 5)):
            (least, low_span), (most, high_span) = extremes(rule)
            self.assertEqual((rule.count(low_span), rule.count(high_span)), (least, most), told(rule))
            self.assertEqual(counted(rule, least, least).simplest(), low_span)
            self.assertEqual(counted(rule, most, most).simplest(), high_span)
            self.assertFalse(counted(rule, most + 1))
            self.assertTrue(least == 0 or not counted(rule, 0, least - 1), told(rule))

    def test_wrong_arguments(self):
        for rule in any_values() + [5, [INSIDE], RangeSet.every(10)]:
            error = error_of(extremes, rule)
            self.assertEqual(error.__class__, InvalidRule)
            self.assertIs(error.value, rule)


class Panned(unittest.TestCase):
    """[62]"""

    def test_written_out(self):
        self.assertEqual(panned(INSIDE, 10), (2, [((2, 0), 1), ((5, 0), 1)]))
        self.assertEqual(panned(length=1, rule=Rule(10, "length", [3], 1)), (1, [((3, 0), 1)]))
        self.assertEqual(panned(Rule(10, "length", [1, 2, 5], 5), FORTY), (1, [((5, 38), 1)]))
        # Steps of 2 * 10 ** 38 with 6 multiples do not fit: where the first is at most so far above the low end.
        far = FORTY - 10 ** 39
        period = 2 * 10 ** 38
        self.assertEqual(panned(INSIDE, FORTY), (period, [((2, 38), period - far - 1), ((5, 38), far + 1)]))

    def test_against_counting_one_by_one(self):
        draw = random.Random(63)
        for rule in sample_rules((1, 2, 5, 6)):
            for length in {1, 2, 3, draw.randint(4, 30), draw.randint(30, 200)}:
                turn = counting.turn_of([rule], length)
                if turn <= 600:
                    labels = counting.labels_one_by_one(lambda low: rule.step((low, low + length, 0)), turn)
                    self.check(rule, length, labels)

    def check(self, rule, length, labels):
        period = counting.least_period(labels)
        steps = sorted(set(labels), key=lambda step: models.value_of(rule.base, step))
        expected = [(step, labels[:period].count(step)) for step in steps]
        self.assertEqual(panned(rule, length), (period, expected), (told(rule), length))

    def test_forty_digits(self):
        draw = random.Random(64)
        checked = 0
        for rule in sample_rules((1, 2, 6)):
            for length in (draw.randint(10 ** 39, 10 ** 40 - 1), rule.base ** 30 * 3, rule.base ** 30 * 5 - 1):
                turn, sizes = counting.turn_of([rule], length), counting.whole_steps([rule], length)
                if turn // min(sizes) <= 200:
                    checked += 1
                    self.check_far(rule, length, turn, sizes)
        self.assertGreater(checked, 200)

    def check_far(self, rule, length, turn, sizes):
        def step(low):
            return rule.step((low, low + length, 0))
        pieces = counting.stretches(step, turn, sizes, length)
        period, steps = panned(rule, length)
        label = (told(rule), length)
        self.assertEqual(turn % period, 0, label)
        many = {}
        for first, past, taken in pieces:
            many[taken] = many.get(taken, 0) + past - first
        self.assertEqual({taken: times * turn for taken, times in steps},
                         {taken: times * period for taken, times in many.items()}, label)
        self.assertEqual(sum(times for _, times in steps), period, label)
        values = [models.value_of(rule.base, taken) for taken, _ in steps]
        self.assertEqual(values, sorted(values), label)
        lows = [first for first, _, _ in pieces] + [past - 1 for _, past, _ in pieces]
        for low in lows:
            self.assertEqual(step(low), step(low + period), label)
        for prime in counting.primes_of(period):
            self.assertTrue(any(step(low) != step(low + period // prime) for low in lows), label)

    def test_each_list_is_a_new_one(self):
        _, steps = panned(INSIDE, 10)
        steps.clear()
        self.assertEqual(panned(INSIDE, 10), (2, [((2, 0), 1), ((5, 0), 1)]))

    def test_wrong_arguments(self):
        for rule in any_values() + [5, [INSIDE]]:
            for length in (5, 0):
                error = error_of(panned, rule, length)
                self.assertEqual(error.__class__, InvalidRule)
                self.assertIs(error.value, rule)
        for length in any_values() + [0, -1, [5], (5,), INSIDE]:
            error = error_of(panned, INSIDE, length)
            self.assertEqual(error.__class__, InvalidNumber)
            self.assertIs(error.value, length)


class Interface(unittest.TestCase):
    """The interface: each function is defined in this module."""

    def test_modules(self):
        for function in (greatest_ratio, least_ratio, extremes, panned):
            self.assertEqual(function.__module__, "axisticks.compare")


if __name__ == "__main__":
    unittest.main()
