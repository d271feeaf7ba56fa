import math
import unittest

from handshakes.counting import choices, common_divisor


class Counting(unittest.TestCase):
    def test_common_divisor(self):
        for one in range(40):
            for other in range(40):
                if one or other:
                    self.assertEqual(common_divisor(one, other), math.gcd(one, other))

    def test_choices(self):
        for things in range(20):
            for chosen in range(things + 1):
                self.assertEqual(choices(things, chosen), math.comb(things, chosen))


if __name__ == "__main__":
    unittest.main()
