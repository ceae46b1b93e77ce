import random
import unittest
from fractions import Fraction

import models
from axisticks.errors import InvalidNumber, InvalidRange, InvalidRule, InvalidRules
from axisticks.rules import Rule
from axisticks.sets import RangeSet
from axisticks.widening import behind, grows, most_rounds, settle, slow, widened
from samples import any_values, error_of

BOTH = [Rule(2, "cover", [1], 4), Rule(2, "cover", [3], 2)]
FIVES = [Rule(5, "cover", [1, 7], 2), Rule(5, "cover", [7], 2)]
THREES = [Rule(3, "cover", [1], 4), Rule(3, "cover", [2], 4)]
TENS = [Rule(10, "cover", [1, 2, 3, 5], 6), Rule(10, "cover", [1, 2, 5], 2), Rule(10, "cover", [1, 3], 4)]
FORTY = 10 ** 39 + 1234567890123456789012345678901234567


def cover_rules(draw, base, many):
    """Draw rules of the kind "cover" whose mantissas have a least common multiple of at most 30."""
    rules = models.drawn_rules(draw, base, many)
    return [Rule(base, "cover", rule.mantissas, max(2, rule.most)) for rule in rules]


def drawn_lists(seed, many):
    draw = random.Random(seed)
    return [cover_rules(draw, draw.randint(2, 10), draw.randint(1, 3)) for _ in range(many)]


def told(rules):
    return "; ".join("{} {} {}".format(rule.base, rule.mantissas, rule.most) for rule in rules)


def widened_by_definition(rule, low, high):
    """Return the fractions of the first and the last mark, with steps of the scale at which the length is near 1."""
    scale = Fraction(1)
    while (high - low) * scale >= rule.base:
        scale /= rule.base
    while (high - low) * scale < 1:
        scale *= rule.base
    low, high = low * scale, high * scale
    size = models.value_of(rule.base, models.step_of(rule, low, high))
    first, last = models.marks_with("cover", size, low, high)
    return first * size / scale, last * size / scale


def spans_for(draw, base, many):
    """Draw ranges about 0, about powers of the base and anywhere, of both signs."""
    spans = [(-3, 3, 0), (0, 1, 0), (-1, 0, 0), (-1, 1, 0), (0, 7, 1), (-5, 2, 2), (9, 15, 0), (-15, -9, 0)]
    for _ in range(many):
        middle = draw.choice([0, base ** draw.randint(1, 9), -base ** draw.randint(1, 9), draw.randint(-999, 999)])
        low = middle - draw.randint(0, 9)
        spans.append((low, low + draw.randint(1, 12), draw.choice([0, 0, 1, 5])))
    return spans


class Refusing(unittest.TestCase):
    def refuses(self, error_class, value, call, *arguments, **named):
        error = error_of(call, *arguments, **named)
        self.assertIs(error.__class__, error_class, (call, arguments, named))
        self.assertIs(error.value, value)


class Arguments(Refusing):
    """[1], [2], [5], [80]: names and wrong arguments."""

    def test_by_name(self):
        self.assertEqual(widened(span=(9, 15, 0), rule=BOTH[0]), (8, 16, 0))
        self.assertEqual(behind(rounds=1, span=(9, 15, 0), rules=BOTH), (6, 18, 0))
        self.assertEqual(settle(span=(9, 15, 0), rules=BOTH), ("settles", (0, 24, 0), 2))
        self.assertEqual(slow(rounds=2, rules=BOTH), slow(BOTH, 2))
        self.assertIsNone(grows(rules=FIVES))
        self.assertEqual(most_rounds(rules=THREES), 2)

    def test_modules(self):
        for function in (widened, behind, settle, grows, most_rounds, slow):
            self.assertEqual(function.__module__, "axisticks.widening")

    def test_rules(self):
        inside = Rule(2, "inside", [1], 4)
        wrong = any_values() + [
            tuple(BOTH), BOTH[0], [BOTH[0], THREES[0]], [BOTH[0], inside], [inside], [Rule(2, "length", [1], 4)],
            [BOTH], [BOTH[0], None], [None, BOTH[0]], [BOTH[0], "cover"], {1: BOTH[0]}, RangeSet.every(2), 5,
        ]
        for rules in wrong:
            self.refuses(InvalidRules, rules, behind, rules, (0, 1, 0), 1)
            self.refuses(InvalidRules, rules, settle, rules, (0, 1, 0))
            self.refuses(InvalidRules, rules, grows, rules)
            self.refuses(InvalidRules, rules, most_rounds, rules)
            self.refuses(InvalidRules, rules, slow, rules, 1)

    def test_rules_of_widened(self):
        for rule in any_values() + [5, BOTH, Rule(2, "inside", [1], 4), Rule(2, "length", [1], 4), RangeSet.every(2)]:
            self.refuses(InvalidRule, rule, widened, rule, (0, 1, 0))

    def test_ranges(self):
        for span in any_values() + [(1, 1, 0), (1, 0, 0), (0, 1, -1), (0, True, 0), [0, 1, 0], (0, 1), 5, BOTH]:
            self.refuses(InvalidRange, span, widened, BOTH[0], span)
            self.refuses(InvalidRange, span, behind, BOTH, span, 1)
            self.refuses(InvalidRange, span, settle, BOTH, span)

    def test_rounds(self):
        for rounds in any_values() + [-1, -(10 ** 39), [1], (1,), BOTH]:
            self.refuses(InvalidNumber, rounds, behind, BOTH, (0, 1, 0), rounds)
            self.refuses(InvalidNumber, rounds, slow, BOTH, rounds)

    def test_the_first_wrong_argument_is_told(self):
        self.refuses(InvalidRule, "a", widened, "a", "b")
        self.refuses(InvalidRules, "a", behind, "a", "b", "c")
        self.refuses(InvalidRange, "b", behind, BOTH, "b", "c")
        self.refuses(InvalidNumber, "c", behind, BOTH, (0, 1, 0), "c")
        self.refuses(InvalidRules, "a", settle, "a", "b")
        self.refuses(InvalidRules, "a", slow, "a", "b")
        self.refuses(InvalidRules, "a", slow, rounds=-1, rules="a")

    def test_the_list_of_rules_stays_as_it_is(self):
        rules = list(BOTH)
        self.assertEqual(behind(rules, (9, 15, 0), 3), (0, 24, 0))
        self.assertIsNotNone(grows(rules))
        self.assertIsNone(most_rounds(rules))
        self.assertIsNotNone(slow(rules, 3))
        self.assertTrue(len(rules) == 2 and rules[0] is BOTH[0] and rules[1] is BOTH[1])


class Widened(unittest.TestCase):
    """[81]: `widened`."""

    def test_written_out(self):
        self.assertEqual(widened(BOTH[0], (9, 15, 0)), (8, 16, 0))
        self.assertEqual(widened(TENS[1], (7, 12, 1)), (5, 15, 1))
        self.assertEqual(widened(TENS[1], (70, 120, 2)), (5, 15, 1))
        self.assertEqual(widened(Rule(10, "cover", [1], 4), (1, 399, 2)), (0, 4, 0))

    def test_against_the_definition(self):
        draw = random.Random(70)
        for rules in drawn_lists(71, 60):
            rule = rules[0]
            for span in spans_for(draw, rule.base, 25):
                self.check(rule, span)

    def test_forty_digits(self):
        for rule in BOTH + FIVES + THREES + TENS:
            for low, digits in ((FORTY, 0), (-FORTY, 20), (FORTY, 7)):
                for length in (1, 77, 10 ** 20, 10 ** 39):
                    self.check(rule, (low, low + length, digits))

    def check(self, rule, span):
        told_span = widened(rule, span)
        expected = widened_by_definition(rule, *models.ends(rule.base, span))
        self.assertEqual(models.ends(rule.base, told_span), expected, (told([rule]), span))
        low, high, digits = told_span
        self.assertTrue(digits == 0 or low % rule.base != 0 or high % rule.base != 0)
        self.assertEqual(widened(rule, told_span), told_span)


class Behind(unittest.TestCase):
    """[81]: `behind`."""

    def test_written_out(self):
        self.assertEqual(behind(BOTH, (9, 15, 0), 0), (9, 15, 0))
        self.assertEqual(behind(BOTH, (9, 15, 0), 1), (6, 18, 0))
        self.assertEqual(behind(BOTH, (9, 15, 0), 2), (0, 24, 0))
        self.assertEqual(behind(BOTH, (9, 15, 0), 200), (0, 24, 0))

    def test_no_rounds_reduce_the_range(self):
        self.assertEqual(behind(BOTH, (16, 24, 5), 0), (2, 3, 2))
        self.assertEqual(behind(TENS, (-500, 1000, 2), 0), (-5, 10, 0))
        self.assertEqual(behind(TENS, (-500, 1000, 0), 0), (-500, 1000, 0))

    def test_two_hundred_rounds_of_a_growing_range(self):
        self.assertEqual(behind(BOTH, (-3, 3, 0), 200), (-3 * 2 ** 200, 3 * 2 ** 200, 0))
        self.assertEqual(behind(BOTH, (-3, 3, 20), 20), (-3, 3, 0))
        self.assertEqual(behind(BOTH, (-3, 3, 20), 7), (-3, 3, 13))

    def test_round_by_round_against_the_definition(self):
        draw = random.Random(72)
        for rules in drawn_lists(73, 40):
            for span in spans_for(draw, rules[0].base, 6):
                low, high = models.ends(rules[0].base, span)
                for rounds in range(6):
                    self.assertEqual(models.ends(rules[0].base, behind(rules, span, rounds)), (low, high), told(rules))
                    for rule in rules:
                        low, high = widened_by_definition(rule, low, high)

    def test_the_order_of_the_rules_matters(self):
        self.assertEqual(behind(BOTH, (9, 15, 0), 1), (6, 18, 0))
        self.assertEqual(behind(BOTH[::-1], (9, 15, 0), 1), (8, 16, 0))


class Settle(unittest.TestCase):
    """[82]"""

    def test_the_examples_of_the_document(self):
        self.assertEqual(settle(BOTH, (9, 15, 0)), ("settles", (0, 24, 0), 2))
        self.assertEqual(settle(BOTH, (-3, 3, 0)), ("grows", 0, 1, 1))
        self.assertEqual(settle(FIVES, (42, 49, 0)), ("settles", (0, 350, 0), 3))
        self.assertEqual(settle(THREES, (3, 7, 0)), ("settles", (0, 12, 0), 2))

    def test_at_once_and_reduced(self):
        self.assertEqual(settle(BOTH, (0, 24, 0)), ("settles", (0, 24, 0), 0))
        self.assertEqual(settle(BOTH, (0, 24, 4)), ("settles", (0, 3, 1), 0))
        self.assertEqual(settle([Rule(10, "cover", [1], 4)], (1, 399, 2)), ("settles", (0, 4, 0), 1))

    def shapes_behind(self, rules, span, rounds):
        """List the ranges behind 0, 1, .. rounds, as ends that no power of the base divides, and the power."""
        base = rules[0].base
        shapes = []
        for _ in range(rounds + 1):
            low, high, digits = span
            power = -digits
            while low % base == 0 and high % base == 0:
                low, high, power = low // base, high // base, power + 1
            shapes.append((low, high, power))
            for rule in rules:
                span = widened(rule, span)
        return shapes

    def check(self, rules, span):
        answer = settle(rules, span)
        label = (told(rules), span, answer)
        self.assertEqual(settle(list(rules), span), answer)
        if answer[0] == "settles":
            _, last, rounds = answer
            shapes = self.shapes_behind(rules, span, rounds + 1)
            self.assertEqual(behind(rules, span, rounds), last, label)
            self.assertEqual(shapes[-1], shapes[-2], label)
            self.assertEqual(len(set(shapes[:-1])), rounds + 1, label)
            return "at once" if rounds == 0 else "late"
        _, before, turn, power = answer
        shapes = self.shapes_behind(rules, span, before + turn)
        self.assertTrue(before >= 0 and turn >= 1 and power >= 1, label)
        self.assertEqual(shapes[before + turn], (shapes[before][0], shapes[before][1], shapes[before][2] + power), label)
        # Nothing comes back earlier: not from a range before, and not in a shorter turn.
        self.assertEqual(len({shape[:2] for shape in shapes[:-1]}), before + turn, label)
        return "grows"

    def test_round_by_round(self):
        draw = random.Random(74)
        sorts = {}
        for rules in drawn_lists(75, 120) + [BOTH, FIVES, THREES, TENS]:
            for span in spans_for(draw, rules[0].base, 15):
                sort = self.check(rules, span)
                sorts[sort] = sorts.get(sort, 0) + 1
        for sort in ("at once", "late", "grows"):
            self.assertGreater(sorts[sort], 100)

    def test_growing_with_a_beginning_and_a_longer_turn(self):
        seen = set()
        for rules in drawn_lists(76, 150):
            for span in ((1, 2, 0), (-1, 3, 0), (0, 7, 0), (99, 101, 0)):
                answer = settle(rules, span)
                if answer[0] == "grows":
                    self.check(rules, span)
                    seen.add((min(answer[1], 3), min(answer[2], 2)))
        self.assertTrue({before for before, _ in seen} >= {0, 1, 2, 3})
        self.assertTrue({turn for _, turn in seen} >= {1, 2}, seen)

    def test_forty_digits_and_a_third_number_of_twenty(self):
        for rules in [BOTH, FIVES, THREES, TENS] + drawn_lists(77, 30):
            for low in (FORTY, -FORTY, 10 ** 39, 1 - 10 ** 40):
                for length, digits in ((1, 20), (13, 0), (10 ** 20, 20)):
                    self.check(rules, (low, low + length, digits))

    def test_the_same_range_told_with_more_digits(self):
        for rules in drawn_lists(78, 40):
            base = rules[0].base
            for span in ((1, 2, 0), (-3, 4, 1), (99, 107, 0)):
                more = (span[0] * base ** 3, span[1] * base ** 3, span[2] + 3)
                self.assertEqual(settle(rules, more), settle(rules, span))
                self.assertEqual(behind(rules, more, 3), behind(rules, span, 3))


if __name__ == "__main__":
    unittest.main()
