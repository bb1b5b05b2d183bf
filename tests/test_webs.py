from itertools import combinations

from nextguess.errors import InvalidPart
from nextguess.lists import Rules
from nextguess.webs import ties_of, ties_within
from tests.byhand import ties_by_hand, within_by_hand
from tests.cases import Lists, is_made_of_tuples
from tests.samples import full, larger_lists, largest_lists, odd_values, scattered, small_lists

SOME = Rules(3, [(0, 0, 0), (0, 0, 1), (0, 1, 1), (1, 0, 1), (1, 1, 0)])


class Ties(Lists):
    def test_small_examples(self):
        self.assert_told(ties_of(SOME), ((0, 1, 2), (1, 2, 1), (1, 3, 0)))
        self.assert_told(ties_of(full(0)), ())
        self.assert_told(ties_of(full(1)), ((0, 1, 0),))
        self.assert_told(ties_of(full(2)), ((0, 1, 1), (0, 2, 0), (1, 3, 0), (2, 3, 1)))
        self.assert_told(ties_of(Rules(2, [(0, 1), (1, 0)])), ())
        self.assert_told(ties_of(Rules(2, [(1, 1), (0, 1), (0, 0)])), ((0, 1, 1), (1, 2, 0)))
        self.assert_told(ties_of(Rules(6, [(1, 0, 1, 0, 1, 0)])), ())

    def test_each_list(self):
        for rules in small_lists() + larger_lists():
            self.assert_told(ties_of(rules), ties_by_hand(rules))
            self.assertEqual(ties_of(rules=rules), ties_of(rules))

    def test_six_points(self):
        self.assertEqual(len(ties_of(full(6))), 192)
        self.assertEqual(ties_within(full(6), tuple(range(64))), 192)
        self.assertEqual(ties_within(full(6), tuple(range(32))), 80)
        self.assertEqual(ties_within(full(6), tuple(range(0, 64, 2))), 80)

    def test_somewhat_more_points(self):
        self.assertEqual(len(ties_of(full(8))), 1024)
        self.assertEqual(ties_of(scattered(8, 37, 3)), ties_by_hand(scattered(8, 37, 3)))


class Within(Lists):
    def test_small_examples(self):
        self.assert_told(ties_within(SOME, (0, 1, 2, 3, 4)), 3)
        self.assert_told(ties_within(SOME, (0, 1, 2)), 2)
        self.assert_told(ties_within(SOME, (1, 3)), 1)
        self.assert_told(ties_within(SOME, (0, 2, 3, 4)), 0)
        self.assert_told(ties_within(SOME, (1,)), 0)
        self.assert_told(ties_within(part=(0, 1), rules=SOME), 1)
        self.assert_told(ties_within(full(0), (0,)), 0)

    def test_every_part_of_small_lists(self):
        for rules in small_lists()[::5] + [full(3)]:
            numbers = range(len(rules))
            for many in range(1, len(rules) + 1):
                for part in combinations(numbers, many):
                    self.assert_told(ties_within(rules, part), within_by_hand(rules, part))

    def test_some_parts_of_larger_lists(self):
        for rules in larger_lists() + [full(6)]:
            n = len(rules)
            parts = [tuple(range(n)), (0,), (n - 1,)] + [tuple(range(0, n, step)) for step in (2, 3, 5)]
            parts += [tuple(range(start, n)) for start in range(0, n, 7)] + [tuple(range(n // 2 + 1))]
            for part in parts:
                self.assert_told(ties_within(rules, part), within_by_hand(rules, part))

    def test_wrong_parts(self):
        for rules in (SOME, full(0), full(2), full(6)):
            n = len(rules)
            wrong = [(), [], [0], [0, 1], (n,), (0, n), (-1,), (-1, 0), (1, 0), (0, 0), (True,), (False,), (0, True),
                     (False, 1), (None,), ("0",), ((0,),), (0, None), (0, 10 ** 12), (0, rules), 0, 1, None, "", "0", rules]
            for part in wrong + odd_values():
                right = type(part) is tuple and is_made_of_tuples(part) and part in [
                    other for many in (1, 2) for other in combinations(range(n), many)
                ]
                if not right:
                    self.assert_raises_with(InvalidPart, "value", part, ties_within, rules, part)
                    self.assert_raises_with(InvalidPart, "value", part, ties_within, part=part, rules=rules)

    def test_stays(self):
        for rules in (full(0), SOME, scattered(6, 5), full(6)):
            self.assert_stays([rules], ties_of, rules)
            for part in ((0,), tuple(range(len(rules))), (), [0], (0, True)):
                self.assert_stays([rules], ties_within, rules, part)


class Numbers(Lists):
    """What [13] says in bold."""

    def test_the_bound(self):
        for rules in small_lists() + larger_lists() + largest_lists()[:3]:
            self.assertLessEqual(4 ** len(ties_of(rules)), len(rules) ** len(rules))
        for size in range(7):
            self.assertEqual(4 ** len(ties_of(full(size))), len(full(size)) ** len(full(size)))

    def test_the_bound_within_parts(self):
        for rules in larger_lists():
            for step in (1, 2, 3, 7):
                part = tuple(range(0, len(rules), step))
                self.assertLessEqual(4 ** ties_within(rules, part), len(part) ** len(part))
