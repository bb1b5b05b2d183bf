from fractions import Fraction

from nextguess.shares import greatest_of
from nextguess.spreads import Spread, densest
from nextguess.webs import inside
from tests.byhand import densest_by_hand, fraction, pair, ties_by_hand, within_by_hand
from tests.cases import Lists
from tests.samples import full, larger_lists, largest_lists, scattered, small_lists

WEIGHTS = [(1,) * 8, (3, 1, 2, 5, 4, 7, 1, 2), (0, 1, 0, 2, 3, 0, 1, 1), (10 ** 24, 1, 7, 10 ** 23, 3, 10 ** 24 - 1, 5, 2)]


def weights_of(rules, weights):
    return [weights[point] for _, _, point in ties_by_hand(rules)]


def loads_of(rules, weights, portions):
    """What each rule carries, if the first rule of each tie carries this portion of its weight."""
    loads = [Fraction(0)] * len(rules)
    for (i, j, point), portion in zip(ties_by_hand(rules), portions):
        loads[i] += weights[point] * fraction(portion)
        loads[j] += weights[point] * (1 - fraction(portion))
    return loads


class Settling(Lists):
    def test_settled_or_not(self):
        for rules in small_lists()[::4] + larger_lists() + largest_lists():
            ties = ties_by_hand(rules)
            for weights in WEIGHTS:
                amounts = weights_of(rules, weights)
                share = densest(len(rules), ties, amounts)[0]
                for limit in (share[0] // share[1], -(-share[0] // share[1]), share[0] // share[1] + 1):
                    spread = Spread(len(rules), ties, amounts)
                    stuck = spread.settle(limit)
                    self.assertIs(stuck == (), limit >= fraction(share))
                    firsts = spread.first_amounts()
                    self.assertTrue(all(0 <= first <= amount for first, amount in zip(firsts, amounts)))
                    if stuck == ():
                        loads = [0] * len(rules)
                        for (i, j, _), first, amount in zip(ties, firsts, amounts):
                            loads[i] += first
                            loads[j] += amount - first
                        self.assertLessEqual(max(loads), limit)
                    else:
                        within = sum([amounts[k] for k in inside(ties, stuck)])
                        self.assertGreater(within, limit * len(stuck))


class Shifting(Lists):
    def test_no_more_is_shifted_than_relieves_and_fits(self):
        """So what is above the limit becomes less with each shift, and settling ends."""
        for rules in (full(2), scattered(4, 3), larger_lists()[0], full(5)):
            ties = ties_by_hand(rules)
            for weights in WEIGHTS:
                amounts = weights_of(rules, weights)
                limit = -(-sum(amounts) // len(rules))
                spread = Spread(len(rules), ties, amounts)
                came, rule = spread.search(limit)
                while rule is not None:
                    ahead = list(spread.loads)
                    spread.shift(came, rule, limit)
                    changed = [k for k, load in enumerate(spread.loads) if load != ahead[k]]
                    self.assertEqual(len(changed), 2)
                    self.assertIn(rule, changed)
                    for k in changed:
                        low, high = (ahead[k], limit) if k == rule else (limit, ahead[k])
                        self.assertTrue(low <= spread.loads[k] <= high)
                    self.assertEqual(sum(spread.loads), sum(amounts))
                    came, rule = spread.search(limit)


class Densest(Lists):
    def test_the_greatest_density_with_part_and_portions(self):
        for rules in small_lists() + larger_lists() + largest_lists():
            for weights in WEIGHTS:
                share, part, portions = densest(len(rules), ties_by_hand(rules), weights_of(rules, weights))
                self.assert_told((share, part, portions), (share, part, portions))
                shares = tuple((weight, 1) for weight in weights)
                self.assertEqual(within_by_hand(rules, part, shares) / len(part), fraction(share))
                self.assertLessEqual(max(loads_of(rules, weights, portions)), fraction(share))

    def test_over_all_parts(self):
        for rules in small_lists()[::5] + [scattered(4, 3), scattered(5, 7, 2)]:
            for weights in WEIGHTS:
                share = densest(len(rules), ties_by_hand(rules), weights_of(rules, weights))[0]
                self.assertEqual(share, pair(densest_by_hand(rules, tuple((weight, 1) for weight in weights))))

    def test_no_weight(self):
        for rules in (full(0), full(2), scattered(5, 3)):
            ties = ties_by_hand(rules)
            share, part, portions = densest(len(rules), ties, [0] * len(ties))
            self.assertEqual((share, part, portions), ((0, 1), tuple(range(len(rules))), ((0, 1),) * len(ties)))


class Greatest(Lists):
    def test_the_greatest_share(self):
        self.assert_told(greatest_of([(1, 2)]), (1, 2))
        self.assert_told(greatest_of([(1, 2), (2, 3), (3, 5)]), (2, 3))
        self.assert_told(greatest_of(((-1, 2), (-2, 3), (-1, 3))), (-1, 3))
        self.assert_told(greatest_of([(0, 1), (5, 1), (9, 2), (5, 1)]), (5, 1))
