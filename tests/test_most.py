import unittest

from handshakes.most import MOST


class Most(unittest.TestCase):
    def test_most(self):
        self.assertEqual(MOST, 300)
        self.assertIs(type(MOST), int)


if __name__ == "__main__":
    unittest.main()
