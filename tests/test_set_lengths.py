import unittest
from fractions import Fraction

import models
from axisticks.rules import Rule
from axisticks.sets import RangeSet, coarser, counted, taken, touched

TENS = Rule(10, "inside", [1, 2, 5], 5)
LENGTH = Rule(10, "length", [1, 2, 5], 5)
ALL = [((1, 0), (10, 0), True, False)]


def number_of(base, length):
    return Fraction(length[0], base ** length[1])


def is_told(base, stretches, length):
    """Tell whether a length is in one of the stretches."""
    for first, last, has_first, has_last in stretches:
        first, last = number_of(base, first), number_of(base, last)
        if first < length < last or (length == first and has_first) or (length == last and has_last):
            return True
    return False


class Forms(unittest.TestCase):
    """[47]: how the lengths are told."""

    def test_all_and_none(self):
        everything = RangeSet.every(10)
        self.assertEqual((everything.lengths(), everything.sure_lengths()), (ALL, ALL))
        self.assertEqual(((~everything).lengths(), (~everything).sure_lengths()), ([], []))
        self.assertEqual(RangeSet.every(2).lengths(), [((1, 0), (2, 0), True, False)])

    def test_a_single_length_and_a_stretch_up_to_the_base(self):
        expected = [((1, 0), (1, 0), True, True), ((5, 0), (10, 0), False, False)]
        self.assertEqual(taken(LENGTH, 2).lengths(), expected)
        self.assertEqual(taken(LENGTH, 2).sure_lengths(), expected)

    def test_stretches_without_a_single_length(self):
        expected = [((1, 0), (1, 0), True, True), ((5, 0), (10, 0), False, False)]
        self.assertEqual((~taken(LENGTH, 2)).lengths(), [((1, 0), (5, 0), False, True)])
        self.assertEqual(((taken(LENGTH, 2)) - counted(LENGTH, 6)).lengths(), expected)
        both = touched(LENGTH, "low") & touched(LENGTH, "high")
        whole = [((number, 0), (number, 0), True, True) for number in (1, 2, 3, 4, 5, 6, 8)]
        told = [one for one in both.lengths() if one[0][1] == 0]
        self.assertEqual(told, whole)

    def test_lengths_with_digits_are_told_with_few(self):
        seven = Rule(7, "length", [1], 3)
        self.assertEqual(taken(seven, 1).lengths(), [((1, 0), (7, 0), True, False)])
        self.assertEqual(
            (touched(seven, "low") & touched(seven, "high") & counted(seven, 3, 3)).lengths(),
            [((2, 0), (2, 0), True, True)],
        )
        quarter = Rule(2, "length", [1], 5)
        self.assertEqual(
            (touched(quarter, "low") & touched(quarter, "high")).lengths(),
            [((number, digits), (number, digits), True, True) for number, digits in ((1, 0), (5, 2), (3, 1))],
        )

    def test_some_and_all_ranges(self):
        low = touched(TENS, "low")
        self.assertEqual((low.lengths(), low.sure_lengths()), (ALL, []))
        self.assertEqual(((~low).lengths(), (~low).sure_lengths()), (ALL, []))
        self.assertEqual(coarser(TENS, LENGTH, (99, 1)).lengths(), [])

    def test_forms_of_drawn_sets(self):
        for model in models.drawn_models(12, 150):
            base = model.held.base
            for stretches in (model.held.lengths(), model.held.sure_lengths()):
                self.assertIs(stretches.__class__, list)
                before = None
                for stretch in stretches:
                    self.assertIs(stretch.__class__, tuple)
                    self.check_stretch(base, *stretch)
                    first = number_of(base, stretch[0])
                    # Two that meet with nothing missing between them would have to be one.
                    self.assertTrue(before is None or before[0] < first or (before[0] == first and not before[1]
                                                                            and not stretch[2]), model.words)
                    before = number_of(base, stretch[1]), stretch[3]

    def check_stretch(self, base, first, last, has_first, has_last):
        for number, digits in (first, last):
            self.assertTrue(digits == 0 or (digits > 0 and number % base != 0))
        low, high = number_of(base, first), number_of(base, last)
        self.assertTrue(1 <= low <= high <= base)
        self.assertIs(has_first.__class__, bool)
        self.assertIs(has_last.__class__, bool)
        if low == high:
            self.assertTrue(has_first and has_last and low < base)
        if high == base:
            self.assertIs(has_last, False)


class AgainstTrying(unittest.TestCase):
    """[47]: lengths at each end told, just below and just above, and others, with all kinds of low ends."""

    def check(self, model, lengths, sure):
        base = model.held.base
        ends = {number_of(base, end) for stretch in lengths + sure for end in stretch[:2]}
        tried = {Fraction(1), Fraction(base) - Fraction(1, base ** 5), Fraction(base + 1, 2)}
        for end in ends:
            tried |= {end, end - Fraction(1, base ** 9), end + Fraction(1, base ** 9)}
        for length in sorted(tried):
            if 1 <= length < base:
                at, between = models.lows_to_try(model.rules, length)
                members = [model.has(low, low + length) for low in at + between]
                label = (model.words, length)
                self.assertIs(is_told(base, lengths, length), any(members), label)
                self.assertIs(is_told(base, sure, length), all(members), label)

    def test_statements_about_rules(self):
        for rules in ([TENS, LENGTH], [Rule(2, "cover", [1], 4), Rule(2, "cover", [3], 2)],
                      [Rule(3, "inside", [1, 2], 3)], [Rule(6, "cover", [4], 2)], [Rule(4, "length", [1, 2, 6], 1)]):
            for model in models.atoms_of(rules):
                self.check(model, model.held.lengths(), model.held.sure_lengths())

    def test_drawn_sets(self):
        checked = 0
        for model in models.drawn_models(13, 80):
            if len(models.counting_sizes(model.rules, Fraction(model.held.base))) <= 12:
                lengths, sure = model.held.lengths(), model.held.sure_lengths()
                if len(lengths) + len(sure) <= 12 and self.tries(model) <= 300:
                    checked += 1
                    self.check(model, lengths, sure)
        self.assertGreater(checked, 20)

    def tries(self, model):
        at, _ = models.lows_to_try(model.rules, Fraction(model.held.base - 1))
        return len(at)

    def test_what_is_told_of_some_lengths_holds_for_multiples_by_the_base(self):
        for model in models.drawn_models(14, 60):
            held = model.held
            base = held.base
            for first, last, has_first, has_last in held.lengths():
                middle = (number_of(base, first) + number_of(base, last)) / 2 * base ** 40
                if middle.denominator == 1:
                    self.assertGreater(held.share(int(middle))[0], 0, model.words)
                for end, has in ((first, has_first), (last, has_last)):
                    if has:
                        many, _ = held.share(int(number_of(base, end) * base ** 40))
                        self.assertGreater(many, 0, model.words)


if __name__ == "__main__":
    unittest.main()
