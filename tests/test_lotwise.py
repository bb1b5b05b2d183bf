from nextguess.drawn import least_mean
from nextguess.errors import InvalidLot, InvalidNumber
from nextguess.freedom import dimension
from nextguess.guesses import least_worst
from nextguess.lists import Rules
from nextguess.lotwise import mean_at, misses_at, most_mean, most_misses
from nextguess.shares import is_below, rounded_up, share_of
from tests.byhand import densest_by_hand, fraction, pair
from tests.cases import Lists
from tests.samples import full, larger_lists, lots_by_hand, no_lots, odd_values, scattered, seen_by_hand, small_lists

SOME = Rules(3, [(0, 0, 0), (0, 0, 1), (0, 1, 0), (1, 1, 1)])
EVEN = Rules(4, [(0, 0, 0, 0), (0, 0, 1, 1), (0, 1, 0, 1), (0, 1, 1, 0), (1, 0, 0, 1), (1, 0, 1, 0), (1, 1, 0, 0), (1, 1, 1, 1)])
WRONG_NUMBERS = [-1, -10 ** 12, True, False, None, "", "0", "1", (), (0,), (1,), [], [1], (1, 1), SOME]


def greatest_mean_by_hand(rules, m):
    seen = [Rules(len(lot), seen_by_hand(rules, lot)) for lot in lots_by_hand(rules.size) if len(lot) <= m]
    return max(densest_by_hand(each) for each in seen)


class AtALot(Lists):
    def test_small_examples(self):
        self.assert_told(misses_at(SOME, ()), 0)
        self.assert_told(mean_at(SOME, ()), (0, 1))
        self.assert_told(misses_at(SOME, (1,)), 1)
        self.assert_told(mean_at(SOME, (1,)), (1, 2))
        self.assert_told(misses_at(SOME, (1, 2)), 1)
        self.assert_told(mean_at(SOME, (1, 2)), (1, 1))
        self.assert_told(misses_at(SOME, (0, 1, 2)), 1)
        self.assert_told(mean_at(SOME, (0, 1, 2)), (2, 3))
        self.assert_told(misses_at(lot=(0, 1), rules=EVEN), 1)
        self.assert_told(mean_at(lot=(0, 1, 2), rules=EVEN), (3, 2))
        self.assert_told(mean_at(EVEN, (0, 1, 2, 3)), (0, 1))
        self.assert_told(misses_at(EVEN, (0, 1, 2, 3)), 0)
        self.assert_told(mean_at(full(0), ()), (0, 1))

    def test_like_the_list_that_is_seen(self):
        for rules in small_lists() + larger_lists()[::2]:
            for lot in lots_by_hand(rules.size):
                seen = Rules(len(lot), seen_by_hand(rules, lot))
                self.assert_told(misses_at(rules, lot), least_worst(seen))
                self.assert_told(mean_at(rules, lot), least_mean(seen))
                if len(seen) <= 8:
                    self.assert_told(mean_at(rules, lot), pair(densest_by_hand(seen)))

    def test_wrong_lots(self):
        for lot in no_lots(3):
            for ask in (misses_at, mean_at):
                self.assert_raises_with(InvalidLot, "value", lot, ask, SOME, lot)
                self.assert_raises_with(InvalidLot, "value", lot, ask, lot=lot, rules=SOME)
        for ask in (misses_at, mean_at):
            lot = (0,)
            self.assert_raises_with(InvalidLot, "value", lot, ask, full(0), lot)

    def test_stays(self):
        for rules in (full(0), SOME, scattered(5, 3)):
            for lot in ((), (0,), tuple(range(rules.size)), (9,), [0], None):
                self.assert_stays([rules], misses_at, rules, lot)
                self.assert_stays([rules], mean_at, rules, lot)


class Most(Lists):
    def test_small_examples(self):
        self.assertEqual([most_mean(SOME, m) for m in range(5)], [(0, 1), (1, 2), (1, 1), (1, 1), (1, 1)])
        self.assertEqual([most_misses(SOME, m) for m in range(5)], [0, 1, 1, 1, 1])
        self.assertEqual([most_mean(EVEN, m) for m in range(6)], [(0, 1), (1, 2), (1, 1), (3, 2), (3, 2), (3, 2)])
        self.assertEqual([most_misses(EVEN, m) for m in range(6)], [0, 1, 1, 2, 2, 2])
        self.assert_told(most_misses(full(0), 0), 0)
        self.assert_told(most_mean(full(0), 10 ** 12 - 1), (0, 1))
        self.assert_told(most_mean(m=2, rules=full(3)), (1, 1))
        self.assert_told(most_misses(m=3, rules=full(3)), 2)

    def test_the_greatest_over_all_lots(self):
        for rules in small_lists() + [rules for rules in larger_lists() if len(rules) <= 13]:
            for m in range(rules.size + 3):
                greatest = pair(greatest_mean_by_hand(rules, m))
                self.assert_told(most_mean(rules, m), greatest)
                self.assert_told(most_misses(rules, m), rounded_up(greatest))

    def test_beyond_the_size(self):
        for rules in (full(0), SOME, scattered(6, 5)):
            for m in (rules.size + 1, 30, 10 ** 12 - 1):
                self.assertEqual(most_mean(rules, m), most_mean(rules, rules.size))
                self.assertEqual(most_misses(rules, m), most_misses(rules, rules.size))

    def test_wrong_numbers(self):
        for rules in (full(0), SOME, full(6)):
            wrong = WRONG_NUMBERS + [value for value in odd_values() if type(value) is not int or value < 0]
            for m in wrong:
                for ask in (most_misses, most_mean):
                    self.assert_raises_with(InvalidNumber, "value", m, ask, rules, m)
                    self.assert_raises_with(InvalidNumber, "value", m, ask, m=m, rules=rules)

    def test_stays(self):
        for rules in (full(0), SOME, scattered(5, 3)):
            for m in (0, 1, rules.size, 9, -1, True, None):
                self.assert_stays([rules], most_misses, rules, m)
                self.assert_stays([rules], most_mean, rules, m)


class Bounds(Lists):
    """What [16] says in bold."""

    def test_half_of_m_up_to_the_dimension(self):
        for rules in small_lists() + larger_lists() + [full(5), EVEN]:
            d = dimension(rules)
            for m in range(rules.size + 2):
                most = most_mean(rules, m)
                self.assertLessEqual(fraction(most), fraction(share_of(m, 2)))
                if m <= d:
                    self.assertEqual(most, share_of(m, 2))
                self.assertIs(is_below(most, (d, 1)), d != 0)
                self.assertEqual(most_misses(rules, m), rounded_up(most))
                self.assertLessEqual(most_misses(rules, m), d)

    def test_a_lot_within_can_have_more(self):
        self.assertTrue(is_below(mean_at(EVEN, (0, 1, 2, 3)), mean_at(EVEN, (0, 1, 2))))
        self.assertGreater(misses_at(EVEN, (0, 1, 2)), misses_at(EVEN, (0, 1, 2, 3)))
