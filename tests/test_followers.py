from fractions import Fraction
from itertools import combinations
from math import comb

from nextguess.errors import InvalidLot, InvalidNumber, InvalidRow
from nextguess.followers import chance_of_wrong, worst_hidden, wrong_bound
from nextguess.freedom import dimension, lots_up_to
from nextguess.lists import Rules
from tests.byhand import fraction, pair, read_by_hand
from tests.cases import Lists
from tests.samples import full, larger_lists, lots_by_hand, no_lots, odd_values, rows_by_hand, seen_by_hand, small_lists

STEPS = Rules(3, [(0, 0, 0), (0, 0, 1), (0, 1, 1), (1, 1, 1)])
ALL = (0, 1, 2)


def lists_to_count():
    """Every list of up to 2 points, and some of 3."""
    return [rules for rules in small_lists() if rules.size < 3] + small_lists()[19::4]


def worst_by_hand(rules, row, lot, hidden):
    """The most points of hidden that a rule has wrong that is right at all other points of the lot."""
    shown = [point for point in lot if point not in hidden]
    fitting = [rule for rule in rules.rows if read_by_hand(rule, shown) == read_by_hand(row, shown)]
    return max(sum(rule[point] != row[point] for point in hidden) for rule in fitting)


def chance_by_hand(rules, row, lot, s, r):
    choices = list(combinations(lot, s))
    return Fraction(sum(worst_by_hand(rules, row, lot, hidden) >= r for hidden in choices), len(choices))


def bound_by_hand(rules, row, lot, s, r):
    choices = list(combinations(range(len(lot)), s))
    total = Fraction(0)
    for seen in seen_by_hand(rules, lot):
        differ = {place for place, (a, b) in enumerate(zip(seen, read_by_hand(row, lot))) if a != b}
        if len(differ) >= r:
            total += Fraction(sum(differ <= set(hidden) for hidden in choices), len(choices))
    return total


def wrong_rows():
    """Values that are no rule of STEPS."""
    rows = [(0, 1, 0), (1, 1), (0, 1, 1, 0), (0, True, 1), (0, 1, True), (False, 0, 0), [0, 1, 1], "011", ((0, 1, 1),)]
    return rows + odd_values()


class WorstHidden(Lists):
    def test_small_examples(self):
        self.assert_told(worst_hidden(STEPS, (0, 0, 1), ALL, ()), 0)
        self.assert_told(worst_hidden(STEPS, (0, 0, 1), ALL, (0,)), 0)
        self.assert_told(worst_hidden(STEPS, (0, 0, 1), ALL, (1,)), 1)
        self.assert_told(worst_hidden(STEPS, (0, 0, 1), ALL, (0, 1)), 2)
        self.assert_told(worst_hidden(STEPS, (0, 0, 1), ALL, (0, 2)), 1)
        self.assert_told(worst_hidden(STEPS, (0, 0, 0), ALL, ALL), 3)
        self.assert_told(worst_hidden(STEPS, (0, 0, 1), (0,), (0,)), 1)
        self.assert_told(worst_hidden(STEPS, (0, 0, 1), (), ()), 0)
        self.assert_told(worst_hidden(hidden=(2,), lot=(0, 2), row=(0, 0, 1), rules=STEPS), 1)
        self.assert_told(worst_hidden(full(0), (), (), ()), 0)
        self.assert_told(worst_hidden(Rules(2, [(0, 1)]), (0, 1), (0, 1), (0, 1)), 0)

    def test_each_rule_lot_and_hidden(self):
        for rules in small_lists():
            for row in rules.rows:
                for lot in lots_by_hand(rules.size):
                    for hidden in [chosen for many in range(len(lot) + 1) for chosen in combinations(lot, many)]:
                        self.assert_told(worst_hidden(rules, row, lot, hidden), worst_by_hand(rules, row, lot, hidden))
        for rules in larger_lists():
            for row in rules.rows[::9]:
                for lot in lots_by_hand(rules.size)[::7]:
                    for hidden in [chosen for many in range(len(lot) + 1) for chosen in combinations(lot, many)][::3]:
                        self.assert_told(worst_hidden(rules, row, lot, hidden), worst_by_hand(rules, row, lot, hidden))

    def test_errors_and_their_order(self):
        for wrong in wrong_rows():
            for lot, hidden in ((ALL, (0,)), ((), None), (None, None), ((3,), (9,))):
                self.assert_raises_with(InvalidRow, "value", wrong, worst_hidden, STEPS, wrong, lot, hidden)
                self.assert_raises_with(InvalidRow, "value", wrong, worst_hidden, hidden=hidden, lot=lot, row=wrong, rules=STEPS)
        for wrong in no_lots(3):
            for hidden in ((), (0,), None, (9,)):
                self.assert_raises_with(InvalidLot, "value", wrong, worst_hidden, STEPS, (0, 0, 1), wrong, hidden)
            self.assert_raises_with(InvalidLot, "value", wrong, worst_hidden, STEPS, (0, 0, 1), ALL, wrong)
            self.assert_raises_with(InvalidLot, "value", wrong, worst_hidden, hidden=wrong, lot=(), row=(0, 0, 1), rules=STEPS)

    def test_hidden_not_within_lot(self):
        for lot in lots_by_hand(3):
            for hidden in lots_by_hand(3):
                if not set(hidden) <= set(lot):
                    self.assert_raises_with(InvalidLot, "value", hidden, worst_hidden, STEPS, (0, 0, 1), lot, hidden)


class ChanceOfWrong(Lists):
    def test_small_examples(self):
        self.assert_told(chance_of_wrong(STEPS, (0, 0, 1), ALL, 1, 1), (2, 3))
        self.assert_told(chance_of_wrong(STEPS, (0, 0, 0), ALL, 1, 1), (1, 3))
        self.assert_told(chance_of_wrong(STEPS, (0, 0, 1), ALL, 2, 2), (1, 3))
        self.assert_told(chance_of_wrong(STEPS, (0, 0, 0), ALL, 3, 3), (1, 1))
        self.assert_told(wrong_bound(STEPS, (0, 0, 1), ALL, 1, 1), (2, 3))
        self.assert_told(wrong_bound(STEPS, (0, 0, 1), ALL, 3, 1), (3, 1))
        self.assert_told(wrong_bound(STEPS, (0, 0, 0), ALL, 2, 1), (1, 1))
        self.assert_told(wrong_bound(r=2, s=2, lot=ALL, row=(0, 0, 0), rules=STEPS), (1, 3))
        self.assert_told(chance_of_wrong(r=1, s=1, lot=(0, 2), row=(0, 0, 1), rules=STEPS), (1, 1))

    def test_nothing_hidden_the_empty_lot_one_rule(self):
        for rules in (STEPS, full(3), Rules(3, [(0, 1, 0)])):
            row = rules.rows[0]
            for r in (1, 2, 9, 10 ** 12 - 1):
                for lot in lots_by_hand(3):
                    self.assert_told(chance_of_wrong(rules, row, lot, 0, r), (0, 1))
                    self.assert_told(wrong_bound(rules, row, lot, 0, r), (0, 1))
        for s in range(4):
            self.assert_told(chance_of_wrong(Rules(3, [(0, 1, 0)]), (0, 1, 0), ALL, s, 1), (0, 1))
            self.assert_told(wrong_bound(Rules(3, [(0, 1, 0)]), (0, 1, 0), ALL, s, 1), (0, 1))
        self.assert_told(chance_of_wrong(full(0), (), (), 0, 1), (0, 1))
        self.assert_told(wrong_bound(full(0), (), (), 0, 1), (0, 1))

    def test_more_wrong_than_hidden(self):
        for s in range(4):
            for r in range(s + 1, 6):
                self.assert_told(chance_of_wrong(full(3), (0, 1, 1), ALL, s, r), (0, 1))
                self.assert_told(wrong_bound(full(3), (0, 1, 1), ALL, s, r), (0, 1))
            self.assert_told(chance_of_wrong(full(3), (0, 1, 1), ALL, s, max(s, 1)), (int(s > 0), 1))

    def test_each_rule_lot_s_and_r(self):
        for rules in lists_to_count():
            for row in rules.rows:
                for lot in lots_by_hand(rules.size):
                    self.assert_counted(rules, row, lot)
        for rules in larger_lists():
            for row in rules.rows[::17]:
                for lot in lots_by_hand(rules.size)[::13]:
                    self.assert_counted(rules, row, lot)

    def assert_counted(self, rules, row, lot):
        for s in range(len(lot) + 1):
            for r in range(1, len(lot) + 2):
                chance, bound = chance_by_hand(rules, row, lot, s, r), bound_by_hand(rules, row, lot, s, r)
                self.assert_told(chance_of_wrong(rules, row, lot, s, r), pair(chance))
                self.assert_told(wrong_bound(rules, row, lot, s, r), pair(bound))

    def test_errors_and_their_order(self):
        for ask in (chance_of_wrong, wrong_bound):
            for wrong in wrong_rows():
                for lot, s, r in ((ALL, 1, 1), (None, None, None), ((), 9, 0)):
                    self.assert_raises_with(InvalidRow, "value", wrong, ask, STEPS, wrong, lot, s, r)
                    self.assert_raises_with(InvalidRow, "value", wrong, ask, r=r, s=s, lot=lot, row=wrong, rules=STEPS)
            for wrong in no_lots(3):
                for s, r in ((0, 1), (None, None), (9, 0)):
                    self.assert_raises_with(InvalidLot, "value", wrong, ask, STEPS, (0, 1, 1), wrong, s, r)
            for wrong in [value for value in odd_values() if type(value) is not int] + [-1, -2, 4, 5, 10 ** 12]:
                for r in (1, 0, None):
                    self.assert_raises_with(InvalidNumber, "value", wrong, ask, STEPS, (0, 1, 1), ALL, wrong, r)
            for lot in lots_by_hand(3):
                self.assert_raises_with(InvalidNumber, "value", len(lot) + 1, ask, STEPS, (0, 1, 1), lot, len(lot) + 1, 1)
            for wrong in [value for value in odd_values() if type(value) is not int] + [0, -1, -2, -(10 ** 12)]:
                self.assert_raises_with(InvalidNumber, "value", wrong, ask, STEPS, (0, 1, 1), ALL, 1, wrong)
                self.assert_raises_with(InvalidNumber, "value", wrong, ask, r=wrong, s=0, lot=(), row=(0, 1, 1), rules=STEPS)

    def test_s_is_refused_ahead_of_r(self):
        for ask in (chance_of_wrong, wrong_bound):
            self.assert_raises_with(InvalidNumber, "value", True, ask, STEPS, (0, 1, 1), ALL, True, False)
            self.assert_raises_with(InvalidNumber, "value", 4, ask, STEPS, (0, 1, 1), ALL, 4, 0)

    def test_stays(self):
        for rules in (STEPS, full(4), Rules(2, [(0, 1)])):
            row = rules.rows[-1]
            for hidden in ((), (0,), (5,), [0]):
                self.assert_stays([rules], worst_hidden, rules, row, (0, 1), hidden)
            for s, r in ((1, 1), (2, 1), (3, 1), (0, 0)):
                self.assert_stays([rules], chance_of_wrong, rules, row, (0, 1), s, r)
                self.assert_stays([rules], wrong_bound, rules, row, (0, 1), s, r)


class Bounds(Lists):
    """What [23] says in bold."""

    def test_chance_bound_and_product(self):
        for rules in lists_to_count() + larger_lists():
            step = 1 if rules.size < 4 else 11
            for row in rules.rows[::step]:
                for lot in lots_by_hand(rules.size)[::step]:
                    others = len(seen_by_hand(rules, lot)) - 1
                    self.assertLessEqual(others, lots_up_to(len(lot), dimension(rules)) - 1)
                    for s in range(len(lot) + 1):
                        for r in range(1, len(lot) + 2):
                            chance = fraction(chance_of_wrong(rules, row, lot, s, r))
                            bound = fraction(wrong_bound(rules, row, lot, s, r))
                            named = Fraction(comb(len(lot) - r, s - r) if r <= s else 0, comb(len(lot), s))
                            self.assertLessEqual(chance, bound)
                            self.assertLessEqual(bound, others * named)

    def test_a_bound_above_one(self):
        self.assertEqual(wrong_bound(full(6), (0,) * 6, tuple(range(6)), 6, 1), (63, 1))
        self.assertEqual(chance_of_wrong(full(6), (0,) * 6, tuple(range(6)), 6, 6), (1, 1))
        self.assertEqual(wrong_bound(full(6), rows_by_hand(6)[9], tuple(range(6)), 3, 3), (1, 1))
