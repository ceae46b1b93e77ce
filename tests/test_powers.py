import unittest

from axisticks.powers import log_of, power_of


class Powers(unittest.TestCase):
    """What all points with powers of the base rest on."""

    def test_powers(self):
        for base in range(2, 12):
            for exponent in range(70):
                self.assertEqual(power_of(base, exponent), base ** exponent)

    def test_exponents_next_to_powers(self):
        for base in range(2, 12):
            for exponent in range(1, 70):
                power = base ** exponent
                self.assertEqual(log_of(base, power - 1), exponent - 1)
                self.assertEqual(log_of(base, power), exponent)
                self.assertEqual(log_of(base, power + 1), exponent + (power + 1 == base * power))

    def test_exponents_of_small_numbers(self):
        self.assertEqual([log_of(3, number) for number in range(1, 11)], [0, 0, 1, 1, 1, 1, 1, 1, 2, 2])


if __name__ == "__main__":
    unittest.main()
