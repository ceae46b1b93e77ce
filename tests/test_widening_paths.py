import random
import unittest

from axisticks.rules import Rule
from axisticks.sets import RangeSet, touched
from axisticks.widening import behind, grows, most_rounds, settle, slow
from test_widening_rounds import BOTH, FIVES, FORTY, TENS, THREES, drawn_lists, spans_for, told

LONE = [Rule(10, "cover", [1, 2, 5], 5)]
NEVER = [Rule(10, "cover", [1], 2), Rule(10, "cover", [3], 2)]


def resting(rules):
    """Return the set of the ranges that a round leaves as they are: both ends are multiples of each step."""
    held = RangeSet.every(rules[0].base)
    for rule in rules:
        held = held & touched(rule, "low") & touched(rule, "high")
    return held


class Base(unittest.TestCase):
    def settles_in(self, rules, span):
        """Return the rounds in which a range that has to settle does so."""
        self.assertIs(span.__class__, tuple)
        self.assertEqual(len(span), 3)
        low, high, digits = span
        self.assertTrue(low < high and digits >= 0 and max(abs(low), abs(high)) < 10 ** 2000)
        self.assertTrue(digits == 0 or low % rules[0].base != 0 or high % rules[0].base != 0)
        answer = settle(rules, span)
        self.assertEqual(answer[0], "settles", told(rules))
        return answer[2]


class Grows(Base):
    """[83]"""

    def test_the_examples_of_the_document(self):
        self.assertIsNone(grows(FIVES))
        self.assertEqual(settle(BOTH, grows(BOTH))[0], "grows")

    def test_one_rule_never_grows_for_ever(self):
        for rules in drawn_lists(80, 40):
            self.assertIsNone(grows(rules[:1]))
            self.assertIsNone(grows([rules[0], rules[0], rules[0]]))

    def test_against_drawn_ranges(self):
        draw = random.Random(81)
        found = {True: 0, False: 0}
        for rules in drawn_lists(82, 120):
            span = grows(rules)
            found[span is None] += 1
            self.assertEqual(grows(list(rules)), span)
            if span is not None:
                self.assertEqual(settle(rules, span)[0], "grows", told(rules))
                self.assertTrue(max(abs(span[0]), abs(span[1])) < 10 ** 2000)
            else:
                for one in spans_for(draw, rules[0].base, 30):
                    self.assertEqual(settle(rules, one)[0], "settles", (told(rules), one))
        self.assertTrue(found[True] > 20 and found[False] > 20)

    def test_all_growing_ranges_are_found_about_zero(self):
        # Rules for which ranges below 0, above 0 and about 0 grow, or only some of these.
        for rules in (BOTH, BOTH[::-1], NEVER, NEVER[::-1]):
            for span in ((-3, 3, 0), (1, 2, 0), (-2, -1, 0), (0, 1, 0), (FORTY, FORTY + 1, 0)):
                if settle(rules, span)[0] == "grows":
                    self.assertIsNotNone(grows(rules))


class MostRounds(Base):
    """[84]: `most_rounds`."""

    def test_the_examples_of_the_document(self):
        self.assertIsNone(most_rounds(BOTH))
        self.assertIsNone(most_rounds(FIVES))
        self.assertEqual(most_rounds(THREES), 2)

    def test_one_rule_settles_in_one_round(self):
        for rules in drawn_lists(83, 40):
            self.assertEqual(most_rounds(rules[:1]), 1)
            self.assertEqual(most_rounds([rules[0], rules[0]]), 1)
        self.assertEqual(most_rounds(LONE), 1)

    def test_no_greatest_number_though_all_ranges_settle(self):
        self.assertIsNone(grows(FIVES))
        self.assertIsNone(most_rounds(FIVES))
        self.assertGreaterEqual(self.settles_in(FIVES, slow(FIVES, 30)), 30)

    def test_no_range_settles(self):
        self.assertIsNone(most_rounds(NEVER))
        for rounds in (0, 1, 2, 30):
            self.assertIsNone(slow(NEVER, rounds))
        self.assertFalse(resting(NEVER))

    def test_the_greatest_number_is_reached_and_not_exceeded(self):
        draw = random.Random(84)
        numbers = set()
        for rules in drawn_lists(85, 150) + [THREES, TENS]:
            most = most_rounds(rules)
            self.assertEqual(most_rounds(list(rules)), most)
            if most is not None:
                numbers.add(min(most, 3))
                self.assertEqual(self.settles_in(rules, slow(rules, most)), most, told(rules))
                self.assertIsNone(slow(rules, most + 1))
                for span in spans_for(draw, rules[0].base, 40):
                    answer = settle(rules, span)
                    self.assertTrue(answer[0] == "grows" or answer[2] <= most, (told(rules), span))
        self.assertEqual(numbers, {1, 2, 3})

    def test_all_short_whole_ranges(self):
        for rules in drawn_lists(86, 25) + [THREES]:
            most = most_rounds(rules)
            base = rules[0].base
            reached = -1
            for low in range(-30, 160):
                for length in range(1, 2 * base + 1):
                    answer = settle(rules, (low, low + length, 0))
                    if answer[0] == "settles":
                        reached = max(reached, answer[2])
            if most is not None:
                self.assertLessEqual(reached, most)
            if slow(rules, 0) is None:
                self.assertEqual(reached, -1)


class Slow(Base):
    """[84]: `slow`."""

    def test_the_examples_of_the_document(self):
        self.assertGreaterEqual(self.settles_in(BOTH, slow(BOTH, 4)), 4)
        self.assertIsNone(slow(THREES, 3))

    def test_all_rounds_up_to_thirty(self):
        for rules in (BOTH, FIVES):
            for rounds in range(31):
                self.assertGreaterEqual(self.settles_in(rules, slow(rules, rounds)), rounds)
        for rounds in range(3):
            self.assertGreaterEqual(self.settles_in(THREES, slow(THREES, rounds)), rounds)
        for rounds in range(3, 31):
            self.assertIsNone(slow(THREES, rounds))

    def test_none_for_no_rounds_only_if_no_range_rests(self):
        found = {True: 0, False: 0}
        for rules in drawn_lists(87, 150):
            span = slow(rules, 0)
            found[span is None] += 1
            self.assertIs(span is None, not resting(rules), told(rules))
            if span is None:
                self.assertIsNone(slow(rules, 1))
                self.assertIsNone(most_rounds(rules))
                self.assertIsNotNone(grows(rules))
            else:
                self.settles_in(rules, span)
        self.assertTrue(found[True] > 5 and found[False] > 50)

    def test_one_round_is_always_possible_if_any_range_settles(self):
        for rules in drawn_lists(88, 60):
            if slow(rules, 0) is not None:
                self.assertGreaterEqual(self.settles_in(rules, slow(rules, 1)), 1)

    def test_drawn_rules(self):
        endless = 0
        for rules in drawn_lists(89, 150):
            most = most_rounds(rules)
            if most is None and slow(rules, 0) is not None:
                endless += 1
                for rounds in (2, 7, 30):
                    span = slow(rules, rounds)
                    self.assertEqual(slow(list(rules), rounds), span)
                    self.assertGreaterEqual(self.settles_in(rules, span), rounds, told(rules))
        self.assertGreater(endless, 10)

    def test_a_slow_range_handed_in_again(self):
        for rules in (BOTH, FIVES):
            span = slow(rules, 30)
            kind, last, rounds = settle(rules, span)
            self.assertEqual((kind, settle(rules, last)), ("settles", ("settles", last, 0)))
            self.assertEqual(behind(rules, span, rounds), last)
            self.assertNotEqual(behind(rules, span, rounds - 1), last)


class Limits(Base):
    """[3], [84]: three rules of many mantissas, and numbers of many digits."""

    def test_three_rules_with_many_classes_of_ranges(self):
        lists = [
            TENS,
            [Rule(10, "cover", [27], 6), Rule(10, "cover", [1], 2), Rule(10, "cover", [9], 2)],
            [Rule(7, "cover", [6, 10, 15, 30], 6), Rule(7, "cover", [1], 2), Rule(7, "cover", [30], 2)],
            [Rule(2, "cover", [1, 3, 5, 15], 6), Rule(2, "cover", [3, 5, 15], 6), Rule(2, "cover", [15], 2)],
            [Rule(9, "cover", [29], 6), Rule(9, "cover", [1, 29], 6), Rule(9, "cover", [1], 2)],
        ]
        for rules in lists:
            most, span = most_rounds(rules), slow(rules, 30)
            if most is not None:
                self.assertEqual(self.settles_in(rules, slow(rules, most)), most)
            elif span is not None:
                self.assertGreaterEqual(self.settles_in(rules, span), 30)

    def test_ranges_of_many_digits_are_taken(self):
        huge = 7 * 10 ** 1990 + 1
        for rules in (BOTH, FIVES, THREES):
            kind = settle(rules, (huge, huge + 1, 0))[0]
            self.assertIn(kind, ("settles", "grows"))
            low, high, digits = behind(rules, (huge, huge + 1, 0), 200)
            scale = rules[0].base ** digits
            self.assertTrue(low <= huge * scale and (huge + 1) * scale <= high)


if __name__ == "__main__":
    unittest.main()
