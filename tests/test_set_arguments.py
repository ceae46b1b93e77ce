import unittest

from axisticks.errors import InvalidBase, InvalidEnd, InvalidFactor, InvalidNumber, InvalidRange, InvalidRule, InvalidSet
from axisticks.rules import Rule
from axisticks.sets import RangeSet, coarser, counted, taken, touched
from samples import any_values, error_of

TENS = Rule(10, "inside", [1, 2, 5], 5)
COVER = Rule(10, "cover", [1, 3], 4)
TWOS = Rule(2, "cover", [1, 3], 4)
FIVE = counted(TENS, 5, 5)

NO_SPANS = [
    (0, 1), (0, 1, 0, 0), (1, 1, 0), (2, 1, 0), (0, 1, -1), (True, 2, 0), (0, True, 0), (0, 1, False), (0, None, 0),
    ("0", 1, 0), [0, 1, 0], ((0, 1, 0),), (0, 1, "0"), (0, [1], 0), 5, TENS, FIVE,
]


class Refusing(unittest.TestCase):
    def refuses(self, error_class, value, call, *arguments, **named):
        error = error_of(call, *arguments, **named)
        self.assertIs(error.__class__, error_class, (call, arguments, named))
        self.assertIs(error.value, value)


class Interface(unittest.TestCase):
    """[1], [2] and the interface: names, arguments by name, methods in the class itself."""

    def test_arguments_by_name_in_another_order(self):
        self.assertEqual(RangeSet.every(base=10), RangeSet.every(10))
        self.assertEqual(counted(most=5, least=5, rule=TENS), FIVE)
        self.assertEqual(counted(least=5, rule=TENS), counted(TENS, 5))
        self.assertEqual(taken(mantissa=2, rule=TENS), taken(TENS, 2))
        self.assertEqual(coarser(times=(3, 2), other=TENS, one=COVER), coarser(COVER, TENS, (3, 2)))
        self.assertEqual(coarser(other=TENS, one=COVER), coarser(COVER, TENS, (1, 1)))
        self.assertEqual(touched(end="low", rule=TENS), touched(TENS, "low"))
        self.assertEqual(FIVE.share(length=8), FIVE.share(8))

    def test_methods_and_properties_stand_in_the_class_itself(self):
        names = ["base", "every", "simplest", "lengths", "sure_lengths", "share"]
        names += ["__and__", "__or__", "__sub__", "__xor__", "__invert__", "__le__", "__lt__", "__ge__", "__gt__"]
        names += ["__eq__", "__contains__", "__bool__"]
        for name in names:
            self.assertIn(name, vars(RangeSet))
        for thing in (RangeSet, counted, taken, coarser, touched):
            self.assertEqual(thing.__module__, "axisticks.sets")

    def test_base(self):
        self.assertEqual(RangeSet.every(7).base, 7)
        self.assertEqual((~RangeSet.every(16)).base, 16)
        for made in (FIVE, ~FIVE, FIVE & FIVE, FIVE | FIVE, FIVE - FIVE, FIVE ^ FIVE, taken(TENS, 1),
                     coarser(TENS, COVER), touched(COVER, "high")):
            self.assertEqual(made.base, 10)
            self.assertIs(made.__class__, RangeSet)

    def test_each_list_is_a_new_one(self):
        first, sure = FIVE.lengths(), counted(TENS, 2).sure_lengths()
        self.assertIsNot(first, FIVE.lengths())
        expected, expected_sure = list(first), list(sure)
        first.clear()
        sure.append(1)
        self.assertEqual(FIVE.lengths(), expected)
        self.assertEqual(counted(TENS, 2).sure_lengths(), expected_sure)

    def test_equal_questions_have_equal_answers_in_any_order(self):
        questions = [FIVE.simplest, FIVE.lengths, FIVE.sure_lengths, lambda: FIVE.share(8), lambda: FIVE <= ~FIVE,
                     lambda: bool(FIVE), lambda: (0, 2, 0) in FIVE]
        answers = [question() for question in questions]
        again = [question() for question in reversed(questions)]
        self.assertEqual(answers, list(reversed(again)))

    def test_operators_change_no_operand(self):
        one, other = touched(TENS, "low"), counted(COVER, 3)
        before = [one.share(length) for length in range(1, 30)], [other.share(length) for length in range(1, 30)]
        results = [one & other, one | other, one - other, one ^ other, ~one, one <= other, one == other]
        self.assertEqual(len(results), 7)
        after = [one.share(length) for length in range(1, 30)], [other.share(length) for length in range(1, 30)]
        self.assertEqual(before, after)


class Making(Refusing):
    """[41] to [45], [5], [2]: wrong arguments of `every` and of the functions that make sets."""

    def test_every(self):
        for base in any_values() + [1, 0, -1, -10, TENS, FIVE, (10,), [10]]:
            self.refuses(InvalidBase, base, RangeSet.every, base)

    def test_rules(self):
        for rule in any_values() + [5, 10, FIVE, [TENS], (TENS,)]:
            self.refuses(InvalidRule, rule, counted, rule, 1, 2)
            self.refuses(InvalidRule, rule, taken, rule, 1)
            self.refuses(InvalidRule, rule, touched, rule, "low")
            self.refuses(InvalidRule, rule, coarser, rule, TENS)
            self.refuses(InvalidRule, rule, coarser, TENS, rule)

    def test_rules_of_two_bases(self):
        self.refuses(InvalidRule, TWOS, coarser, TENS, TWOS)
        self.refuses(InvalidRule, TENS, coarser, TWOS, TENS, (0, 0))

    def test_counts(self):
        for number in any_values() + [-1, -(10 ** 39), (1,), [2], TENS]:
            if number is not None:
                self.refuses(InvalidNumber, number, counted, TENS, 0, number)
            self.refuses(InvalidNumber, number, counted, TENS, number, 5)
            self.refuses(InvalidNumber, number, counted, TENS, number)
        self.refuses(InvalidNumber, None, counted, TENS, None)

    def test_mantissas(self):
        for mantissa in any_values() + [0, 3, 10, -1, 20, 50, 10 ** 39, [1], (1,), TENS]:
            self.refuses(InvalidNumber, mantissa, taken, TENS, mantissa)
        self.refuses(InvalidNumber, True, taken, TENS, True)

    def test_factors(self):
        wrong = [
            (0, 1), (1, 0), (-1, 1), (1, -2), (1,), (1, 1, 1), (), (True, 1), (1, True), ("1", 1), (1, None), ((1, 1),),
            [1, 1], 1, 2, (TENS, 1), (1, (1,)), TENS,
        ]
        for times in any_values() + wrong:
            if times != (1, 2):
                self.refuses(InvalidFactor, times, coarser, TENS, COVER, times)

    def test_ends(self):
        for end in any_values() + ["Low", "low ", "both", "", ("low",), ["high"], {"low": 1}, 0, TENS]:
            self.refuses(InvalidEnd, end, touched, TENS, end)

    def test_the_first_wrong_argument_is_told(self):
        bad = ["bad"]
        self.refuses(InvalidRule, bad, counted, bad, -1, -2)
        self.refuses(InvalidNumber, -1, counted, TENS, -1, -2)
        self.refuses(InvalidNumber, -2, counted, TENS, 5, -2)
        self.refuses(InvalidRule, bad, taken, bad, bad)
        self.refuses(InvalidRule, bad, touched, bad, bad)
        self.refuses(InvalidRule, bad, coarser, bad, TWOS, bad)
        self.refuses(InvalidRule, TWOS, coarser, TENS, TWOS, bad)
        self.refuses(InvalidRule, bad, coarser, times=None, other=None, one=bad)


class Operating(Refusing):
    """[41], [5]: wrong operands and arguments of a set."""

    def test_right_operands(self):
        calls = [
            lambda other: FIVE & other, lambda other: FIVE | other, lambda other: FIVE - other,
            lambda other: FIVE ^ other, lambda other: FIVE <= other, lambda other: FIVE < other,
            lambda other: FIVE >= other, lambda other: FIVE > other,
        ]
        for call in calls:
            for other in any_values() + [5, TENS, RangeSet.every(2), ~RangeSet.every(9), taken(TWOS, 1), [FIVE]]:
                self.refuses(InvalidSet, other, call, other)

    def test_equality_with_anything(self):
        for other in any_values() + [5, TENS, RangeSet.every(2), taken(TWOS, 1), [FIVE], InvalidSet(FIVE)]:
            self.assertIs(FIVE == other, False)
            self.assertIs(FIVE != other, True)
            self.assertIs(other == FIVE, False)
            self.assertIs(other != FIVE, True)
        self.assertIs(RangeSet.every(2) == RangeSet.every(3), False)
        self.assertIs(~RangeSet.every(2) == ~RangeSet.every(4), False)

    def test_ranges(self):
        for span in any_values() + NO_SPANS:
            self.refuses(InvalidRange, span, lambda one: one in FIVE, span)
            self.refuses(InvalidRange, span, lambda one: one in RangeSet.every(10), span)

    def test_lengths_of_share(self):
        for length in any_values() + [0, -1, -(10 ** 39), (1,), [5], TENS]:
            self.refuses(InvalidNumber, length, FIVE.share, length)
            self.refuses(InvalidNumber, length, RangeSet.every(10).share, length)


if __name__ == "__main__":
    unittest.main()
