import unittest
from fractions import Fraction

import oracle
from axisticks.errors import InvalidRange
from axisticks.rules import Rule
from samples import any_values, error_of, sample_rules, told

FORTY = 10 ** 39 + 1234567890123456789012345678901234567


def small_spans():
    """List ranges with low ends below, at and above 0, with few digits and with more of them."""
    spans = [(low, low + length, 0) for low in range(-4, 7) for length in (1, 2, 5, 6, 10, 31)]
    spans += [(low, low + length, 1) for low in (-13, -1, 0, 7, 12) for length in (1, 4, 10, 17)]
    spans += [(low, low + length, 3) for low in (-1001, 0, 450) for length in (1, 999, 1024)]
    spans += [(low, low + length, 20) for low in (-7, 0, 12345) for length in (1, 20, 65536)]
    return spans


class Examples(unittest.TestCase):
    """[21]"""

    def test_the_example_of_the_document(self):
        tens, thirds = Rule(10, "inside", [5, 1, 2], 5), Rule(10, "cover", [1, 3], 4)
        told_there = [
            tens.step((0, 12, 0)), tens.marks((0, 12, 0)), tens.step((7, 12, 1)), thirds.step((10, 22, 0)),
            thirds.marks((10, 22, 0)), thirds.count((-1, 1, 0)),
        ]
        self.assertEqual(told_there, [(5, 0), (0, 2), (2, -1), (1, 1), (1, 3), 3])

    def test_arguments_by_name(self):
        rule = Rule(10, "inside", [1, 2, 5], 5)
        self.assertEqual(rule.step(span=(0, 12, 0)), (5, 0))
        self.assertEqual(rule.marks(span=(0, 12, 0)), (0, 2))
        self.assertEqual(rule.count(span=(0, 12, 0)), 3)

    def test_ends_at_multiples_of_a_step_count_inside(self):
        rule = Rule(10, "inside", [1], 5)
        self.assertEqual([rule.step((0, 4, 0)), rule.marks((0, 4, 0))], [(1, 0), (0, 4)])
        self.assertEqual([rule.step((0, 5, 0)), rule.marks((0, 5, 0))], [(1, 1), (0, 0)])
        self.assertEqual([rule.step((1, 59, 1)), rule.marks((1, 59, 1))], [(1, 0), (1, 5)])
        self.assertEqual([rule.step((-2, 2, 0)), rule.marks((-2, 2, 0))], [(1, 0), (-2, 2)])

    def test_cover_counts_steps_and_not_marks(self):
        rule = Rule(10, "cover", [1], 4)
        self.assertEqual([rule.step((0, 4, 0)), rule.marks((0, 4, 0)), rule.count((0, 4, 0))], [(1, 0), (0, 4), 5])
        self.assertEqual([rule.step((1, 41, 1)), rule.marks((1, 41, 1))], [(1, 1), (0, 1)])
        self.assertEqual([rule.step((-1, 39, 1)), rule.marks((-1, 39, 1))], [(1, 1), (-1, 1)])

    def test_length_does_not_look_at_the_ends(self):
        rule = Rule(10, "length", [1], 4)
        for low in range(-25, 25):
            self.assertEqual(rule.step((low, low + 40, 1)), (1, 0))
            self.assertEqual(rule.step((low, low + 41, 1)), (1, 1))
        self.assertEqual(rule.marks((5, 45, 1)), (1, 4))
        self.assertEqual(rule.count((0, 40, 1)), 5)

    def test_no_marks(self):
        one = Rule(10, "inside", [1], 1)
        self.assertEqual([one.step((1, 2, 1)), one.marks((1, 2, 1)), one.count((1, 2, 1))], [(1, 0), (1, 0), 0])
        self.assertEqual([one.marks((-2, -1, 1)), one.count((-2, -1, 1))], [(0, -1), 0])
        self.assertEqual([one.marks((31, 32, 1)), one.count((31, 32, 1))], [(4, 3), 0])
        self.assertEqual([one.marks((-32, -31, 1)), one.count((-32, -31, 1))], [(-3, -4), 0])
        length = Rule(10, "length", [1], 1)
        self.assertEqual([length.step((1, 8, 1)), length.marks((1, 8, 1))], [(1, 0), (1, 0)])
        self.assertEqual(length.count((1, 8, 1)), 0)

    def test_a_mantissa_may_be_greater_than_the_base(self):
        rule = Rule(10, "length", [1, 25], 1)
        self.assertEqual(rule.step((0, 1, 0)), (1, 0))
        self.assertEqual(rule.step((0, 2, 0)), (25, -1))
        self.assertEqual(rule.step((0, 25, 1)), (25, -1))
        self.assertEqual(rule.step((0, 26, 1)), (1, 1))

    def test_the_least_step_is_taken_though_a_greater_one_does_not_fit(self):
        inside = Rule(10, "inside", [3, 4], 1)
        # From 4 to 8 there is one multiple of 3, but two of 4 are there.
        self.assertEqual([inside.step((4, 8, 0)), inside.marks((4, 8, 0))], [(3, 0), (2, 2)])
        cover = Rule(10, "cover", [3, 4], 2)
        # Two steps of 3 lead from 3 to 9, but three of 4 from 0 to 12.
        self.assertEqual([cover.step((3, 9, 0)), cover.marks((3, 9, 0))], [(3, 0), (1, 3)])
        self.assertEqual([cover.step((3, 10, 0)), cover.step((4, 10, 0))], [(3, 1), (4, 0)])

    def test_such_greater_steps_are_met(self):
        met = {"inside": 0, "cover": 0, "length": 0}
        for rule in sample_rules():
            for span in small_spans()[:60]:
                low, high = oracle.ends(rule.base, span)
                taken = rule.step(span)
                nearby = [(m, p) for m in rule.mantissas for p in range(taken[1] - 5, taken[1] + 6)]
                greater = [one for one in nearby if oracle.value_of(rule.base, one) > oracle.value_of(rule.base, taken)]
                if not all(oracle.fits(rule, one, low, high) for one in greater):
                    met[rule.kind] += 1
        self.assertGreater(met["inside"], 0)
        self.assertGreater(met["cover"], 0)
        self.assertEqual(met["length"], 0)


class AgainstTheDefinition(unittest.TestCase):
    """[10], [21]: steps, marks and counts against those found by counting multiples."""

    def test_small_ranges(self):
        for rule in sample_rules():
            for span in small_spans():
                label = (told(rule), span)
                self.assertEqual(rule.step(span), oracle.step(rule, span), label)
                first, last = oracle.marks(rule, span)
                self.assertEqual(rule.marks(span), (first, last), label)
                self.assertEqual(rule.count(span), last - first + 1, label)

    def test_kinds_of_values(self):
        for rule in sample_rules((2,)):
            for span in ((0, 12, 0), (1, 2, 3)):
                for pair in (rule.step(span), rule.marks(span)):
                    self.assertEqual((pair.__class__, [one.__class__ for one in pair]), (tuple, [int, int]))
                self.assertIs(rule.count(span).__class__, int)

    def test_many_marks_and_many_mantissas(self):
        for kind in ("inside", "cover", "length"):
            rule = Rule(16, kind, [1, 3, 5, 7, 11, 300], 40)
            for span in ((0, 1, 0), (-50, 1000, 1), (7, 65543, 2), (-1, 40, 0)):
                self.assertEqual(rule.step(span), oracle.step(rule, span), (kind, span))
                self.assertEqual(rule.marks(span), oracle.marks(rule, span), (kind, span))

    def test_forty_digits(self):
        spans = [
            (-FORTY, FORTY, 0), (FORTY, FORTY + 1, 0), (FORTY, 10 ** 40 - 1, 20), (-FORTY - 3, -FORTY, 20),
            (0, 10 ** 40 - 1, 0), (1 - 10 ** 40, 0, 20), (-1, FORTY, 7), (10 ** 39, 2 * 10 ** 39, 20),
        ]
        for rule in sample_rules((2, 6)):
            for span in spans:
                label = (told(rule), span)
                self.assertEqual(rule.step(span), oracle.step(rule, span), label)
                self.assertEqual(rule.marks(span), oracle.marks(rule, span), label)

    def test_numbers_of_forty_digits_written_out(self):
        rule = Rule(10, "inside", [1, 2, 5], 6)
        self.assertEqual(rule.step((0, 10 ** 40 - 1, 0)), (2, 39))
        self.assertEqual(rule.marks((0, 10 ** 40 - 1, 20)), (0, 4))
        self.assertEqual(rule.step((0, 10 ** 40 - 1, 20)), (2, 19))
        self.assertEqual(rule.step((10 ** 39, 10 ** 39 + 1, 20)), (2, -21))
        self.assertEqual(rule.marks((10 ** 39, 10 ** 39 + 1, 20)), (5 * 10 ** 39, 5 * 10 ** 39 + 5))


class SameRanges(unittest.TestCase):
    """[10]: the same range told with more digits, and what steps and marks are for all ranges."""

    def test_more_digits_change_nothing(self):
        for rule in sample_rules((2, 5)):
            for low, high, digits in ((0, 12, 0), (-3, 4, 1), (7, 19, 2), (-1, 0, 0), (FORTY, FORTY + 77, 3)):
                span = (low, high, digits)
                for more in (1, 2, 9, 20):
                    factor = rule.base ** more
                    same = (low * factor, high * factor, digits + more)
                    label = (told(rule), span, more)
                    self.assertEqual(rule.step(same), rule.step(span), label)
                    self.assertEqual(rule.marks(same), rule.marks(span), label)
                    self.assertEqual(rule.count(same), rule.count(span), label)

    def test_a_range_that_is_not_reduced_is_a_range(self):
        rule = Rule(10, "inside", [1, 2, 5], 5)
        self.assertEqual(rule.step((0, 1200, 2)), (5, 0))
        self.assertEqual(rule.marks((0, 1200, 2)), (0, 2))

    def test_base_times_the_range_takes_base_times_the_step(self):
        for rule in sample_rules((2, 5)):
            for span in small_spans()[:40]:
                low, high, digits = span
                mantissa, power = rule.step(span)
                greater = (low * rule.base, high * rule.base, digits)
                self.assertEqual(rule.step(greater), (mantissa, power + 1), (told(rule), span))
                self.assertEqual(rule.marks(greater), rule.marks(span), (told(rule), span))

    def test_steps_times_marks_enclose_or_lie_within(self):
        for rule in sample_rules((2, 5)):
            for span in small_spans()[:40]:
                low, high = oracle.ends(rule.base, span)
                size = oracle.value_of(rule.base, rule.step(span))
                first, last = [Fraction(number) * size for number in rule.marks(span)]
                if rule.kind == "cover":
                    self.assertTrue(low - size < first <= low and high <= last < high + size)
                else:
                    self.assertTrue(low <= first < low + size and high - size < last <= high)


class Refused(unittest.TestCase):
    """[10], [2]: `InvalidRange` with the argument itself."""

    def test_what_is_no_range(self):
        rule = Rule(10, "inside", [1, 2, 5], 5)
        wrong = any_values() + [
            5, rule, [0, 12, 0], (0, 12), (0, 12, 0, 0), (12, 0, 0), (5, 5, 0), (0, 0, 0), (0, 12, -1), (0, 12, None),
            (True, 12, 0), (False, 12, 0), (0, True, 0), (0, 12, False), (0, 12, True), ("0", "12", "0"), (0, "1", 0),
            (None, 12, 0), ((0, 12, 0),), (0, [12], 0), ((0,), 12, 0), (0, 12, rule), (rule, rule, rule), "abc",
            {0: 1, 1: 2, 2: 3}, (-1, -2, 20),
        ]
        for kind in ("inside", "cover", "length"):
            rule = Rule(10, kind, [1, 2, 5], 5)
            for span in wrong:
                for call in (rule.step, rule.marks, rule.count):
                    error = error_of(call, span)
                    self.assertIs(error.__class__, InvalidRange, span)
                    self.assertIs(error.value, span)
                    self.assertIs(error_of(call, span=span).value, span)

    def test_an_error_changes_nothing(self):
        rule = Rule(10, "inside", [1, 2, 5], 5)
        error_of(rule.step, (0, 0, 0))
        error_of(rule.marks, [0, 12, 0])
        self.assertEqual(rule, Rule(10, "inside", [1, 2, 5], 5))
        self.assertEqual(rule.marks((0, 12, 0)), (0, 2))


if __name__ == "__main__":
    unittest.main()
