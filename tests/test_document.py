import unittest

from axisticks.compare import extremes, greatest_ratio, panned
from axisticks.rules import Rule
from axisticks.sets import coarser, counted, taken, touched
from axisticks.widening import behind, grows, most_rounds, settle, slow, widened


class Examples(unittest.TestCase):
    """The examples behind [21], [48], [62] and [84], as the document gives them."""

    def test_rules(self):
        tens, thirds = Rule(10, "inside", [5, 1, 2], 5), Rule(10, "cover", [1, 3], 4)
        self.assertEqual(
            [tens.step((0, 12, 0)), tens.marks((0, 12, 0)), tens.step((7, 12, 1)), thirds.step((10, 22, 0)),
             thirds.marks((10, 22, 0)), thirds.count((-1, 1, 0))],
            [(5, 0), (0, 2), (2, -1), (1, 1), (1, 3), 3],
        )

    def test_sets(self):
        inside, length = Rule(10, "inside", [1, 2, 5], 5), Rule(10, "length", [1, 2, 5], 5)
        five, few = counted(inside, 5, 5), counted(inside, 0, 2)
        self.assertEqual(
            [five.simplest(), bool(few), coarser(inside, length).simplest(), taken(length, 2).lengths(), five.share(8),
             (3, 10, 0) in touched(inside, "low")],
            [(0, 2, 0), True, (0, 1, 0), [((1, 0), (1, 0), True, True), ((5, 0), (10, 0), False, False)], (1, 2), False],
        )

    def test_two_rules(self):
        inside, cover = Rule(10, "inside", [1, 2, 5], 5), Rule(10, "cover", [1, 2, 5], 5)
        self.assertEqual(
            [greatest_ratio(inside, cover), extremes(inside), panned(inside, 10)],
            [((5, 2), (0, 1, 0)), ((2, (2, 12, 0)), (5, (0, 2, 0))), (2, [((2, 0), 1), ((5, 0), 1)])],
        )

    def test_widening(self):
        both = [Rule(2, "cover", [1], 4), Rule(2, "cover", [3], 2)]
        self.assertEqual(
            [widened(both[0], (9, 15, 0)), behind(both, (9, 15, 0), 1), settle(both, (9, 15, 0)),
             settle(both, (-3, 3, 0)), most_rounds(both), settle(both, slow(both, 4))[2] >= 4],
            [(8, 16, 0), (6, 18, 0), ("settles", (0, 24, 0), 2), ("grows", 0, 1, 1), None, True],
        )

    def test_widening_that_always_settles(self):
        fives = [Rule(5, "cover", [1, 7], 2), Rule(5, "cover", [7], 2)]
        threes = [Rule(3, "cover", [1], 4), Rule(3, "cover", [2], 4)]
        self.assertEqual(
            [grows(fives), most_rounds(fives), settle(fives, (42, 49, 0)), most_rounds(threes), slow(threes, 3),
             settle(threes, (3, 7, 0))],
            [None, None, ("settles", (0, 350, 0), 3), 2, None, ("settles", (0, 12, 0), 2)],
        )


if __name__ == "__main__":
    unittest.main()
