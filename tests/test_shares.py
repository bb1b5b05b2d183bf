import unittest
from fractions import Fraction

from nextguess.errors import InvalidNumber, Undefined
from nextguess.shares import is_below, is_share, less, over, plus, rounded_up, share_of, times, total_of
from tests.byhand import pair
from tests.samples import odd_values

SHARES = [(0, 1), (1, 1), (-1, 1), (1, 2), (-1, 2), (2, 3), (-7, 3), (16, 11), (999999999998, 7), (1, 999999999999)]


class IsShare(unittest.TestCase):
    def test_shares(self):
        for value in SHARES + [(5, 1), (-5, 4), (10 ** 40 + 1, 10 ** 40)]:
            self.assertIs(is_share(value), True, value)

    def test_no_shares(self):
        wrong = [
            (0, 2), (2, 2), (2, 4), (-2, 4), (1, 0), (0, 0), (1, -1), (1, -2), (0, -1), (3,), (1, 2, 3), (),
            [1, 2], [0, 1], (True, 1), (1, True), (False, 1), (True, True), (True, 2), (1, None), ("1", "2"), ("1", 2),
            ((1, 2), 1), (1, (2,)), ([1], 2), ((1, 2), (3, 4)), "12", "1/2", 1, None,
        ]
        for value in wrong:
            self.assertIs(is_share(value), False, value)

    def test_any_value_at_all(self):
        rightly = [(-1, 1), (2, 1)]
        for value in odd_values():
            self.assertIs(is_share(value), value in rightly, value)

    def test_by_name(self):
        self.assertIs(is_share(value=(1, 2)), True)
        self.assertIs(is_share(value=[1, 2]), False)


class ShareOf(unittest.TestCase):
    def test_like_fractions(self):
        for a in range(-12, 13):
            for b in range(-12, 13):
                if b != 0:
                    self.assertEqual(share_of(a, b), pair(Fraction(a, b)))
                    self.assertTrue(is_share(share_of(a, b)))

    def test_zero_negative_and_common_divisors(self):
        self.assertEqual(share_of(0, 5), (0, 1))
        self.assertEqual(share_of(0, -5), (0, 1))
        self.assertEqual(share_of(6, 4), (3, 2))
        self.assertEqual(share_of(6, -4), (-3, 2))
        self.assertEqual(share_of(-6, -4), (3, 2))
        self.assertEqual(share_of(7, 1), (7, 1))

    def test_twelve_figures(self):
        self.assertEqual(share_of(999999999999, 999999999998), (999999999999, 999999999998))
        self.assertEqual(share_of(999999999999, 333333333333), (3, 1))
        self.assertEqual(share_of(-999999999999, 999999999999), (-1, 1))
        self.assertEqual(share_of(100000000000, 999999999990), (10000000000, 99999999999))

    def test_a_tuple_of_integers(self):
        value = share_of(4, 2)
        self.assertIs(type(value), tuple)
        self.assertEqual([type(member) for member in value], [int, int])

    def test_nought(self):
        for a in (0, 1, -3):
            with self.assertRaises(InvalidNumber) as caught:
                share_of(a, 0)
            self.assertEqual(caught.exception.value, 0)
            self.assertIs(type(caught.exception.value), int)

    def test_by_name(self):
        self.assertEqual(share_of(b=4, a=2), (1, 2))
        self.assertEqual(share_of(2, b=4), (1, 2))


class Reckoning(unittest.TestCase):
    def test_like_fractions(self):
        for one in SHARES:
            for other in SHARES:
                f, g = Fraction(*one), Fraction(*other)
                self.assertEqual(plus(one, other), pair(f + g))
                self.assertEqual(less(one, other), pair(f - g))
                self.assertEqual(times(one, other), pair(f * g))
                self.assertIs(is_below(one, other), f < g)
                if g != 0:
                    self.assertEqual(over(one, other), pair(f / g))

    def test_results_are_shares(self):
        for one in SHARES:
            for other in SHARES:
                for reckon in (plus, less, times):
                    self.assertTrue(is_share(reckon(one, other)))

    def test_over_nought(self):
        for one in SHARES:
            with self.assertRaises(Undefined) as caught:
                over(one, (0, 1))
            self.assertEqual(caught.exception.what, "nought")

    def test_rounded_up(self):
        for a in range(-12, 13):
            for b in range(1, 8):
                least = -20
                while least * b < a:
                    least += 1
                self.assertEqual(rounded_up(share_of(a, b)), least)
        self.assertEqual(rounded_up((-1, 2)), 0)
        self.assertEqual(rounded_up((-3, 2)), -1)
        self.assertEqual(rounded_up((-4, 1)), -4)
        self.assertEqual(rounded_up((1, 999999999999)), 1)

    def test_total_of(self):
        self.assertEqual(total_of([]), (0, 1))
        self.assertEqual(total_of(()), (0, 1))
        self.assertEqual(total_of([(1, 2)]), (1, 2))
        self.assertEqual(total_of([(1, 2), (1, 3), (1, 6)]), (1, 1))
        self.assertEqual(total_of(((1, 2), (-1, 2))), (0, 1))
        self.assertEqual(total_of(tuple(SHARES)), pair(sum([Fraction(*share) for share in SHARES])))

    def test_total_of_leaves_the_list(self):
        shares = [(1, 2), (1, 3)]
        self.assertEqual(total_of(shares), total_of(shares))
        self.assertEqual(shares, [(1, 2), (1, 3)])

    def test_by_name(self):
        self.assertEqual(plus(other=(1, 3), one=(1, 2)), (5, 6))
        self.assertEqual(less(other=(1, 3), one=(1, 2)), (1, 6))
        self.assertEqual(times(other=(1, 3), one=(1, 2)), (1, 6))
        self.assertEqual(over(other=(1, 3), one=(1, 2)), (3, 2))
        self.assertIs(is_below(other=(1, 3), one=(1, 2)), False)
        self.assertEqual(total_of(shares=[(1, 2)]), (1, 2))
        self.assertEqual(rounded_up(one=(1, 2)), 1)
