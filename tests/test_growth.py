import unittest

import oracle
from axisticks import growth
from axisticks.errors import InvalidNumber, InvalidRule
from axisticks.growth import steps_from
from axisticks.rules import Rule
from samples import any_values, error_of, sample_rules, told

TENS = Rule(10, "inside", [1, 2, 5], 5)
FORTY = 10 ** 39 + 1234567890123456789012345678901234567


class Near(unittest.TestCase):
    """[25]: ends that are near each other."""

    def test_written_out(self):
        self.assertEqual(
            steps_from(TENS, 0, 100),
            [(1, (5, -1)), (3, (1, 0)), (5, (2, 0)), (10, (5, 0)), (25, (1, 1)), (50, (2, 1)), (100, (5, 1))],
        )
        self.assertEqual(
            steps_from(Rule(10, "cover", [1], 4), 5, 60), [(6, (1, 0)), (10, (1, 1)), (41, (1, 2))]
        )
        self.assertEqual(
            steps_from(Rule(2, "length", [1], 2), -3, 6),
            [(-2, (1, -1)), (-1, (1, 0)), (0, (1, 1)), (2, (1, 2)), (6, (1, 3))],
        )

    def test_arguments_by_name(self):
        self.assertEqual(steps_from(most_high=4, rule=TENS, low=0), [(1, (5, -1)), (3, (1, 0))])

    def test_one_high_end_only(self):
        self.assertEqual(steps_from(TENS, 7, 8), [(8, TENS.step((7, 8, 0)))])
        self.assertEqual(steps_from(TENS, -1, 0), [(0, TENS.step((-1, 0, 0)))])

    def test_most_high_is_included(self):
        self.assertEqual(steps_from(TENS, 0, 24)[-1], (10, (5, 0)))
        self.assertEqual(steps_from(TENS, 0, 25)[-1], (25, (1, 1)))

    def test_against_the_steps_of_the_ranges_one_by_one(self):
        for rule in sample_rules((1, 2, 5)):
            for low in (-23, -1, 0, 4):
                changes = oracle.steps_from(rule, low, low + 40)
                self.assertEqual(steps_from(rule, low, low + 40), changes, (told(rule), low))

    def test_each_most_high(self):
        for rule in sample_rules((1, 3)):
            whole = steps_from(rule, -11, 40)
            for most_high in range(-10, 41):
                part = [(high, step) for high, step in whole if high <= most_high]
                self.assertEqual(steps_from(rule, -11, most_high), part, (told(rule), most_high))


class Far(unittest.TestCase):
    """[25], [3]: ends that are far apart, numbers of forty digits."""

    def check(self, rule, low, most_high):
        changes = steps_from(rule, low, most_high)
        label = (told(rule), low, most_high)
        self.assertEqual(changes[0][0], low + 1, label)
        highs = [high for high, _ in changes]
        sizes = [oracle.value_of(rule.base, step) for _, step in changes]
        self.assertTrue(all(high < above for high, above in zip(highs, highs[1:])), label)
        self.assertTrue(all(size < above for size, above in zip(sizes, sizes[1:])), label)
        for (high, step), above in zip(changes, highs[1:] + [most_high + 1]):
            # The least fitting step never falls as the range grows, so its first and its last range are enough.
            self.assertEqual(oracle.step(rule, (low, high, 0)), step, label)
            self.assertEqual(oracle.step(rule, (low, above - 1, 0)), step, label)

    def test_against_the_definition(self):
        for rule in sample_rules((2, 6)):
            self.check(rule, -FORTY, FORTY)

    def test_low_ends_below_at_and_above_zero(self):
        for rule in (TENS, Rule(2, "cover", [1, 3, 5, 15], 6), Rule(3, "length", [2, 5, 10], 1)):
            for low in (1 - 10 ** 40, -(10 ** 20) - 1, -1, 0, 1, 10 ** 20 + 7, 10 ** 39):
                self.check(rule, low, 10 ** 40 - 1)

    def test_near_each_other_far_from_zero(self):
        for rule in sample_rules((2, 6)):
            for low in (FORTY, -FORTY):
                changes = oracle.steps_from(rule, low, low + 20)
                self.assertEqual(steps_from(rule, low, low + 20), changes, (told(rule), low))

    def test_written_out(self):
        changes = steps_from(Rule(10, "length", [1], 1), -(10 ** 39), 10 ** 39)
        expected = [(1 - 10 ** 39, (1, 0))] + [(10 ** k + 1 - 10 ** 39, (1, k + 1)) for k in range(40)]
        self.assertEqual(changes, expected)


class Results(unittest.TestCase):
    """[2]"""

    def test_each_list_is_a_new_one(self):
        first = steps_from(TENS, 0, 30)
        first.clear()
        second = steps_from(TENS, 0, 30)
        self.assertEqual(second[0], (1, (5, -1)))
        self.assertIsNot(second, steps_from(TENS, 0, 30))

    def test_kinds_of_values(self):
        for high, step in steps_from(TENS, -5, 30):
            self.assertEqual((high.__class__, step.__class__), (int, tuple))
            self.assertEqual([number.__class__ for number in step], [int, int])

    def test_defined_in_its_module(self):
        self.assertEqual(growth.steps_from.__module__, "axisticks.growth")


class Refused(unittest.TestCase):
    """[25], [2]"""

    def check(self, kind, value, *arguments):
        error = error_of(steps_from, *arguments)
        self.assertIs(error.__class__, kind, arguments)
        self.assertIs(error.value, value)

    def test_no_rule(self):
        for rule in any_values() + [10, (10, "inside", [1, 2, 5], 5)]:
            self.check(InvalidRule, rule, rule, 0, 10)

    def test_no_whole_numbers(self):
        for number in any_values() + [TENS]:
            self.check(InvalidNumber, number, TENS, number, 10)
            self.check(InvalidNumber, number, TENS, 0, number)

    def test_most_high_not_greater(self):
        for low in (-10 ** 39, -5, 0, 3, 10 ** 39):
            for most_high in (low, low - 1, low - 10 ** 38):
                self.check(InvalidNumber, most_high, TENS, low, most_high)

    def test_the_first_wrong_argument_is_told(self):
        low, most_high = [0], [1]
        self.check(InvalidRule, "no rule", "no rule", low, most_high)
        self.check(InvalidNumber, low, TENS, low, most_high)
        self.check(InvalidNumber, low, TENS, low, -1)
        self.check(InvalidNumber, most_high, TENS, 5, most_high)

    def test_by_name(self):
        error = error_of(steps_from, most_high=None, low="low", rule=TENS)
        self.assertEqual((error.__class__, error.value), (InvalidNumber, "low"))
        error = error_of(steps_from, most_high=None, low="low", rule=7)
        self.assertEqual((error.__class__, error.value), (InvalidRule, 7))


if __name__ == "__main__":
    unittest.main()
