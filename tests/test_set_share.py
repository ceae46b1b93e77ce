import random
import unittest
from functools import lru_cache

import counting
import models
from axisticks.rules import Rule
from axisticks.sets import RangeSet, coarser, counted, taken, touched

TENS = Rule(10, "inside", [1, 2, 5], 5)
COVER = Rule(10, "cover", [1, 3], 4)
FIVE = counted(TENS, 5, 5)
FORTY = 10 ** 39 + 1234567890123456789012345678901234567


class Short(unittest.TestCase):
    """[48]: `share` against counting one by one, for short lengths."""

    def check(self, held, rules, length):
        turn = counting.turn_of(rules, length)
        if turn > 700:
            return False
        labels = counting.labels_one_by_one(lambda low: (low, low + length, 0) in held, turn)
        period = counting.least_period(labels)
        self.assertEqual(held.share(length), (sum(labels[:period]), period), (length, rules))
        return True

    def test_written_out(self):
        self.assertEqual(FIVE.share(8), (1, 2))
        self.assertEqual(touched(TENS, "low").share(8), (1, 2))
        self.assertEqual(touched(TENS, "low").share(10), (1, 10))
        self.assertEqual((touched(TENS, "low") & touched(TENS, "high")).share(7), (0, 1))
        self.assertEqual(touched(COVER, "low").share(4), (1, 1))
        self.assertEqual(touched(COVER, "low").share(5), (1, 3))

    def test_all_and_none(self):
        for length in (1, 2, 10, 999, FORTY):
            self.assertEqual(RangeSet.every(10).share(length), (1, 1))
            self.assertEqual((~RangeSet.every(10)).share(length), (0, 1))
            self.assertEqual(counted(TENS, 0).share(length), (1, 1))
            self.assertEqual((FIVE & ~FIVE).share(length), (0, 1))

    def test_steps_below_one_divide_all_whole_numbers(self):
        self.assertEqual(touched(TENS, "low").share(1), (1, 1))
        self.assertEqual(touched(Rule(10, "inside", [3], 6), "low").share(1), (1, 3))
        self.assertEqual(touched(Rule(10, "inside", [15], 6), "low").share(2), (1, 3))

    def test_statements_about_rules(self):
        for rules in ([TENS, COVER], [Rule(2, "cover", [1], 4), Rule(2, "cover", [3], 2)],
                      [Rule(6, "length", [1, 2, 3], 2), Rule(6, "inside", [4], 1)]):
            for model in models.atoms_of(rules):
                for length in (1, 2, 3, 5, 8, 12, 20):
                    self.check(model.held, rules, length)

    def test_drawn_sets(self):
        draw = random.Random(15)
        checked = 0
        for model in models.drawn_models(16, 150):
            for length in {1, 2, 3, draw.randint(4, 40), draw.randint(40, 200)}:
                checked += self.check(model.held, model.rules, length)
        self.assertGreater(checked, 200)


class Long(unittest.TestCase):
    """[48], [3]: lengths of forty digits, against a common multiple of the steps."""

    def check(self, held, rules, length):
        label = (length, [repr((rule.base, rule.kind, rule.mantissas, rule.most)) for rule in rules])
        turn = counting.turn_of(rules, length)
        sizes = counting.whole_steps(rules, length)
        if turn // min(sizes) > 120:
            return False

        @lru_cache(maxsize=None)
        def has(low):
            return (low, low + length, 0) in held
        pieces = counting.stretches(has, turn, sizes, length)
        many, period = held.share(length)
        self.assertEqual(turn % period, 0, label)
        in_turn = sum(past - first for first, past, told in pieces if told)
        self.assertEqual(in_turn * period, many * turn, label)
        lows = [first for first, _, _ in pieces] + [past - 1 for _, past, _ in pieces]
        for low in lows:
            self.assertIs(has(low), has(low + period), label)
        for prime in counting.primes_of(period):
            # A shorter period would show at one of the low ends where something changes.
            self.assertTrue(any(has(low) != has(low + period // prime) for low in lows), label)
        return True

    def test_written_out(self):
        self.assertEqual(touched(TENS, "low").share(8 * 10 ** 38), (1, 2 * 10 ** 38))
        self.assertEqual(touched(TENS, "high").share(FORTY), (1, 10 ** 39))
        self.assertEqual((touched(TENS, "low") | touched(TENS, "high")).share(FORTY), (2, 10 ** 39))

    def test_a_period_that_is_less_than_each_step(self):
        # Both ends are touched in turn, half a step apart.
        length = 9 * 10 ** 38
        rule = Rule(10, "length", [2], 5)
        self.assertEqual(touched(rule, "low").share(length), (1, 2 * 10 ** 38))
        self.assertEqual((touched(rule, "low") | touched(rule, "high")).share(length), (1, 10 ** 38))

    def test_statements_about_rules(self):
        for rules in ([TENS, COVER], [Rule(2, "inside", [1, 3], 4), Rule(2, "cover", [3], 2)],
                      [Rule(7, "length", [1, 4], 2), Rule(7, "inside", [2], 6)]):
            base = rules[0].base
            for model in models.atoms_of(rules):
                for length in (FORTY, 3 * base ** 30, 3 * base ** 30 + 1):
                    self.check(model.held, rules, length)

    def test_drawn_sets(self):
        draw = random.Random(17)
        checked = 0
        for model in models.drawn_models(18, 40):
            base = model.held.base
            for length in (draw.randint(10 ** 39, 10 ** 40 - 1), draw.randint(base, base ** 3) * base ** 29):
                checked += self.check(model.held, model.rules, length)
        self.assertGreater(checked, 20)

    def test_twelve_operators_with_three_rules_of_four_mantissas(self):
        rules = [Rule(10, "inside", [1, 2, 3, 5], 6), Rule(10, "cover", [1, 6, 15, 2], 6), Rule(10, "length", [3], 6)]
        draw = random.Random(19)
        for _ in range(15):
            model = models.drawn_model(draw, rules, 12)
            many, period = model.held.share(FORTY)
            self.assertEqual(counting.turn_of(rules, FORTY) % period, 0)
            self.assertTrue(0 <= many <= period)
            self.assertEqual((~model.held).share(FORTY), (period - many, period))


class Growing(unittest.TestCase):
    """[40], [48]: what is counted at a length and at the length times the base."""

    def test_between_steps_shares_of_all_positions_stay(self):
        for model in models.drawn_models(20, 60):
            base = model.held.base
            long = 3 * base ** 30
            many, period = model.held.share(long)
            more, longer = model.held.share(long * base)
            # Members with an end at a multiple of a step are few beside the others, which grow by the base.
            self.assertLess(abs(more * period - many * longer) * base ** 20, period * longer, model.words)


if __name__ == "__main__":
    unittest.main()
