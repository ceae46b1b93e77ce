import unittest

import oracle
from axisticks.errors import InvalidRule
from axisticks.rules import Rule
from samples import KINDS, any_values, error_of, sample_rules, told


class Making(unittest.TestCase):
    """[20], [1], [2]: what `Rule(..)` takes and what it tells."""

    def test_the_properties_tell_the_arguments(self):
        rule = Rule(10, "inside", [5, 1, 2], 5)
        self.assertEqual((rule.base, rule.kind, rule.mantissas, rule.most), (10, "inside", [1, 2, 5], 5))

    def test_arguments_by_name_in_another_order(self):
        rule = Rule(most=4, mantissas=[3, 1], kind="cover", base=7)
        self.assertEqual((rule.base, rule.kind, rule.mantissas, rule.most), (7, "cover", [1, 3], 4))
        self.assertEqual(rule, Rule(7, "cover", mantissas=[1, 3], most=4))

    def test_the_least_arguments_that_are_allowed(self):
        for kind, most in (("inside", 1), ("length", 1), ("cover", 2)):
            rule = Rule(2, kind, [1], most)
            self.assertEqual((rule.base, rule.kind, rule.mantissas, rule.most), (2, kind, [1], most))

    def test_mantissas_are_ascending_by_size_also_above_the_base(self):
        self.assertEqual(Rule(10, "inside", [25, 3, 101, 9], 2).mantissas, [3, 9, 25, 101])
        self.assertEqual(Rule(2, "length", [15, 5, 3, 1], 6).mantissas, [1, 3, 5, 15])

    def test_a_common_divisor_with_the_base_is_no_error(self):
        self.assertEqual(Rule(6, "inside", [4, 3, 9, 2], 2).mantissas, [2, 3, 4, 9])

    def test_beyond_the_limits_no_error(self):
        rule = Rule(16, "inside", [1, 3, 5, 7, 11, 12345678901], 40)
        self.assertEqual((rule.base, len(rule.mantissas), rule.most), (16, 6, 40))

    def test_changing_the_list_afterwards_changes_no_rule(self):
        mantissas = [5, 1, 2]
        rule = Rule(10, "inside", mantissas, 5)
        self.assertEqual(mantissas, [5, 1, 2])
        mantissas.append(7)
        mantissas[0] = 3
        self.assertEqual(rule.mantissas, [1, 2, 5])
        self.assertEqual(rule.step((0, 12, 0)), (5, 0))

    def test_each_list_of_mantissas_is_a_new_one(self):
        rule = Rule(10, "inside", [1, 2, 5], 5)
        given = rule.mantissas
        self.assertIsNot(given, rule.mantissas)
        given.clear()
        self.assertEqual(rule.mantissas, [1, 2, 5])
        self.assertEqual(rule.step((0, 12, 0)), (5, 0))
        self.assertEqual(rule, Rule(10, "inside", [1, 2, 5], 5))

    def test_methods_and_properties_stand_in_the_class_itself(self):
        self.assertEqual(Rule.__module__, "axisticks.rules")
        for name in ("base", "kind", "mantissas", "most", "dividing", "step", "marks", "count", "__eq__"):
            self.assertIn(name, vars(Rule))


class Refused(unittest.TestCase):
    """[20], [2]: `InvalidRule`, and no other error, with the tuple of the four arguments."""

    def check(self, base, kind, mantissas, most):
        error = error_of(Rule, base, kind, mantissas, most)
        arguments = (base, kind, mantissas, most)
        self.assertIs(error.__class__, InvalidRule, arguments)
        self.assertIs(error.value.__class__, tuple)
        self.assertEqual(len(error.value), 4)
        for held, given in zip(error.value, arguments):
            self.assertIs(held, given)

    def test_bases(self):
        for base in any_values() + [1, 0, -1, -10, Rule(2, "inside", [1], 1)]:
            self.check(base, "inside", [1], 5)

    def test_kinds(self):
        for kind in any_values() + ["Inside", "cover ", "lengths", 1, ["inside"], ("cover",), {"length": 1}]:
            if kind != "inside":
                self.check(10, kind, [1], 5)
        self.check(10, Rule(2, "inside", [1], 1), [1], 5)

    def test_mantissas(self):
        wrong = [
            [], [0], [-1], [1, -3], [10], [1, 20], [1, 1], [3, 1, 3], [True], [1, None], ["1"], [[1]], [(1,)],
            [1, 2, {}], (1, 2, 5), "125", 1, None, True, {1: 2}, (), {}, Rule(2, "inside", [1], 1),
            [Rule(2, "inside", [1], 1)],
        ]
        for mantissas in wrong:
            for kind in KINDS:
                self.check(10, kind, mantissas, 5)
        self.check(2, "cover", [1, 2], 5)
        self.check(6, "cover", [1, 3, 36], 5)

    def test_most(self):
        for kind in KINDS:
            for most in any_values() + [0, -1, -6]:
                self.check(10, kind, [1, 2, 5], most)
        self.check(10, "cover", [1, 2, 5], 1)

    def test_a_dict_is_no_list_of_mantissas_and_a_boolean_no_number(self):
        self.check(10, "inside", {1: 1}, 5)
        self.check(True, "inside", [1], 5)
        self.check(10, "inside", [1], True)
        self.check(10, "inside", [2, True], 3)

    def test_several_wrong_arguments_at_once(self):
        self.check(None, None, None, None)
        self.check([], {}, (), "")
        self.check(0, "inside", [0], 0)
        self.check("10", 5, [1, 1], False)

    def test_by_name_the_tuple_has_the_order_of_the_interface(self):
        error = error_of(Rule, most=0, mantissas=[1], kind="inside", base=10)
        self.assertEqual((error.__class__, error.value), (InvalidRule, (10, "inside", [1], 0)))


class Equality(unittest.TestCase):
    """[20], [2]"""

    def test_equal_with_the_same_four_properties(self):
        self.assertTrue(Rule(10, "inside", [1, 2, 5], 5) == Rule(10, "inside", [5, 2, 1], 5))
        self.assertFalse(Rule(10, "inside", [1, 2, 5], 5) != Rule(10, "inside", [5, 2, 1], 5))

    def test_not_equal_with_one_other_property(self):
        rule = Rule(10, "inside", [1, 2], 5)
        others = [
            Rule(9, "inside", [1, 2], 5), Rule(10, "length", [1, 2], 5), Rule(10, "cover", [1, 2], 5),
            Rule(10, "inside", [1, 3], 5), Rule(10, "inside", [1], 5), Rule(10, "inside", [1, 2, 5], 5),
            Rule(10, "inside", [1, 2], 4),
        ]
        for other in others:
            self.assertFalse(rule == other)
            self.assertTrue(rule != other)
            self.assertFalse(other == rule)

    def test_rules_with_the_same_steps_told_otherwise_are_not_equal(self):
        self.assertFalse(Rule(4, "inside", [1, 2], 3) == Rule(2, "inside", [1], 3))

    def test_not_equal_to_other_objects(self):
        rule = Rule(10, "inside", [1, 2, 5], 5)
        for other in any_values() + [10, (10, "inside", [1, 2, 5], 5), InvalidRule(rule)]:
            self.assertIs(rule == other, False)
            self.assertIs(other == rule, False)
            self.assertIs(rule != other, True)


class Dividing(unittest.TestCase):
    """[21]: the property `dividing`."""

    def test_true(self):
        rows = [
            (2, [1]), (2, [15]), (10, [7]), (6, [4]), (10, [1, 5]), (10, [5, 1]), (10, [1, 2]), (10, [5]), (10, [25]),
            (4, [1, 2]), (9, [3, 1]), (8, [1, 2, 4]), (12, [1, 2, 6]),
        ]
        for base, mantissas in rows:
            for kind in KINDS:
                self.assertIs(Rule(base, kind, mantissas, 3).dividing, True, (base, mantissas))

    def test_false(self):
        rows = [
            (10, [1, 2, 5]), (10, [1, 3]), (10, [2, 3]), (10, [1, 4]), (10, [1, 2, 4]), (6, [1, 2, 3]), (2, [1, 3]),
            (3, [1, 2]), (10, [5, 21]),
        ]
        for base, mantissas in rows:
            for kind in KINDS:
                self.assertIs(Rule(base, kind, mantissas, 3).dividing, False, (base, mantissas))

    def test_mantissas_above_the_base_are_compared_by_the_size_of_their_steps(self):
        # 1 divides 25, but the step above 1 is 25 * 10 ** -1.
        self.assertIs(Rule(10, "inside", [1, 25], 3).dividing, False)
        # 9 does not divide 3, but 9 * 6 ** -1 does.
        self.assertIs(Rule(6, "inside", [3, 9], 3).dividing, True)
        self.assertIs(Rule(4, "inside", [3, 6], 3).dividing, True)
        self.assertIs(Rule(4, "inside", [1, 3, 6], 3).dividing, False)

    def test_against_the_steps_one_by_one(self):
        for rule in sample_rules((2,)):
            steps = [(mantissa, power) for mantissa in rule.mantissas for power in range(-8, 9)]
            sizes = sorted(oracle.value_of(rule.base, step) for step in steps)
            # Both ends of the list lack steps of great and of small mantissas.
            middle = sizes[len(sizes) // 3:-(len(sizes) // 3)]
            divides = all((above / size).denominator == 1 for size, above in zip(middle, middle[1:]))
            self.assertIs(rule.dividing, divides, told(rule))


if __name__ == "__main__":
    unittest.main()
