import unittest

from nextguess.basics import power


class Power(unittest.TestCase):
    def test_products_of_like_integers(self):
        for base in (-3, -1, 0, 1, 2, 10, 10 ** 24):
            for many in (0, 1, 2, 5, 30):
                self.assertEqual(power(base, many), base ** many)
