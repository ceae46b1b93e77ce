import itertools
import unittest
from fractions import Fraction

import models
from axisticks.rules import Rule
from axisticks.sets import RangeSet, coarser, counted, taken, touched

TENS = Rule(10, "inside", [1, 2, 5], 5)
LENGTH = Rule(10, "length", [1, 2, 5], 5)
FIVE = counted(TENS, 5, 5)


class SaidInOtherWords(unittest.TestCase):
    """[41]: comparisons of a set with the same one."""

    def same(self, one, other):
        self.assertIs(one == other, True)
        self.assertIs(other == one, True)
        self.assertIs(one != other, False)
        self.assertIs(one <= other, True)
        self.assertIs(one >= other, True)
        self.assertIs(one < other, False)
        self.assertIs(one > other, False)

    def test_laws_of_sets(self):
        everything = RangeSet.every(10)
        one, other, third = touched(TENS, "low"), counted(LENGTH, 4), coarser(TENS, LENGTH)
        self.same(~~one, one)
        self.same(one - other, one & ~other)
        self.same(one ^ other, (one | other) - (one & other))
        self.same(~(one & other), ~one | ~other)
        self.same(one & (other | third), (one & other) | (one & third))
        self.same(one | ~one, everything)
        self.same(one & ~one, ~everything)
        self.same(one - one, ~everything)
        self.same(one ^ everything, ~one)

    def test_the_same_marks_and_steps_said_otherwise(self):
        self.same(counted(TENS, 0), RangeSet.every(10))
        self.same(counted(TENS, 2, 4), ~counted(TENS, 5))
        self.same(taken(TENS, 1) | taken(TENS, 2), ~taken(TENS, 5))

    def test_times_between_two_ratios_do_not_matter(self):
        self.same(coarser(TENS, LENGTH, (3, 2)), coarser(TENS, LENGTH, (17, 10)))

    def test_drawn_sets_in_other_words(self):
        for model in models.drawn_models(7, 60, 4):
            one = model.held
            every = RangeSet.every(one.base)
            self.same(one, ~(every - one))
            self.same(one ^ one, ~every)
            self.same(one | (one & every), one)


class Parts(unittest.TestCase):
    """[41]: comparisons of a set with a part of it, with all and with none."""

    def less(self, part, whole):
        rows = [(part <= whole, True), (part < whole, True), (part >= whole, False), (part > whole, False),
                (whole <= part, False), (whole < part, False), (whole >= part, True), (whole > part, True),
                (part == whole, False), (part != whole, True)]
        for told, expected in rows:
            self.assertIs(told, expected)

    def neither(self, one, other):
        for told in (one <= other, one < other, one >= other, one > other, one == other):
            self.assertIs(told, False)
        self.assertIs(one != other, True)

    def test_all_and_none(self):
        everything = RangeSet.every(10)
        self.less(~everything, everything)
        self.less(~everything, FIVE)
        self.less(FIVE, everything)
        self.assertIs(bool(everything), True)
        self.assertIs(bool(~everything), False)

    def test_a_part(self):
        self.less(FIVE & touched(TENS, "low"), FIVE)
        self.less(FIVE, FIVE | touched(TENS, "low"))
        self.less(counted(TENS, 3, 3), counted(TENS, 3, 4))
        self.less(coarser(TENS, LENGTH, (2, 1)), coarser(TENS, LENGTH))

    def test_a_part_that_lacks_lone_lengths_only(self):
        # Of one length exactly: the step of `LENGTH` is touched at both ends only there.
        whole = RangeSet.every(10)
        self.less(whole - (taken(LENGTH, 2) & counted(LENGTH, 6, 6)), whole)

    def test_sets_of_ranges_of_one_length_only(self):
        # A range with both ends at multiples of its step and so many marks has one length.
        both = touched(LENGTH, "low") & touched(LENGTH, "high")
        everything = RangeSet.every(10)
        for mantissa in (1, 2, 5):
            for count in range(2, 7):
                lone = both & counted(LENGTH, count, count) & taken(LENGTH, mantissa)
                lengths = [one for one in lone.lengths() if one[0] == one[1]]
                self.assertEqual(lone.lengths(), lengths)
                self.assertIs(bool(lone), len(lengths) > 0)
                self.assertIs(lone == ~everything, len(lengths) == 0)
                self.assertIs(everything - lone < everything, len(lengths) > 0)
                self.assertIs(lone.simplest() is None, len(lengths) == 0)

    def test_neither_within_the_other(self):
        self.neither(touched(TENS, "low"), touched(TENS, "high"))
        self.neither(taken(TENS, 1), taken(TENS, 2))
        self.neither(FIVE, ~FIVE)

    def test_where_one_is_not_within_another_a_range_shows_it(self):
        found = 0
        drawn = models.drawn_models(8, 120, 5)
        by_base = {}
        for model in drawn:
            by_base.setdefault(model.held.base, []).append(model)
        for some in by_base.values():
            for one, other in itertools.combinations(some[:6], 2):
                span = (one.held - other.held).simplest()
                self.assertIs(one.held <= other.held, span is None)
                self.assertIs(other.held >= one.held, span is None)
                if span is not None:
                    found += 1
                    low, high = Fraction(span[0]), Fraction(span[1])
                    scale = Fraction(one.held.base) ** len(str(span[1] - span[0]))
                    self.assertIs(one.has(low / scale, high / scale), True, (one.words, other.words, span))
                    self.assertIs(other.has(low / scale, high / scale), False, (one.words, other.words, span))
        self.assertGreater(found, 20)

    def test_within_another_by_trying_ranges(self):
        for model in models.drawn_models(9, 30, 3):
            for other in models.atoms_of(model.rules[:1])[:5]:
                within = model.held <= other.held
                lows = range(0, 40)
                spans = [(low, low + length, 0) for low in lows for length in range(1, 40)]
                if within:
                    self.assertFalse([span for span in spans if span in model.held and span not in other.held])


class Simplest(unittest.TestCase):
    """[46]"""

    def test_the_examples_of_the_document(self):
        self.assertEqual(FIVE.simplest(), (0, 2, 0))
        self.assertEqual(coarser(TENS, LENGTH).simplest(), (0, 1, 0))

    def test_all_and_none(self):
        for base in (2, 3, 10):
            self.assertEqual(RangeSet.every(base).simplest(), (0, 1, 0))
            self.assertIsNone((~RangeSet.every(base)).simplest())
        self.assertIsNone((FIVE & ~FIVE).simplest())

    def test_the_least_low_end_is_not_always_zero(self):
        self.assertEqual((RangeSet.every(10) - touched(LENGTH, "low")).simplest(), (1, 7, 0))

    def test_against_trying_all_whole_ranges(self):
        tried = 0
        for model in models.drawn_models(10, 200):
            held = model.held
            span = held.simplest()
            self.assertIs(span is not None, bool(held), model.words)
            if span is None:
                self.check_none_of_the_short(model)
                continue
            low, high, digits = span
            self.assertEqual(digits, 0)
            self.assertGreaterEqual(low, 0)
            self.assertIs(span in held, True, model.words)
            if high - low <= 40 and low <= 400:
                tried += 1
                for length in range(1, high - low):
                    for start in range(self.turn_of(model, length)):
                        self.assertIs((start, start + length, 0) in held, False, (model.words, span))
                for start in range(low):
                    self.assertIs((start, start + high - low, 0) in held, False, (model.words, span))
        self.assertGreater(tried, 60)

    def check_none_of_the_short(self, model):
        for length in range(1, 12):
            for start in range(min(60, self.turn_of(model, length))):
                self.assertIs((start, start + length, 0) in model.held, False, model.words)

    def turn_of(self, model, length):
        """Return how far low ends are tried; the members repeat with it, or it is long enough."""
        turn = models.common_multiple(models.counting_sizes(model.rules, length) + [Fraction(1)])
        return min(int(turn), 150)


if __name__ == "__main__":
    unittest.main()
