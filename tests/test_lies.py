from nextguess.errors import InvalidNumber
from nextguess.freedom import dimension, free_lots, lots_up_to
from nextguess.lies import near
from nextguess.lists import Rules
from tests.cases import Lists
from tests.samples import full, larger_lists, largest_lists, odd_values, rows_by_hand, scattered, small_lists


def unlike_at(one, other):
    """At how many points two rows differ."""
    return sum(a != b for a, b in zip(one, other))


def near_by_hand(rules, lies):
    return [row for row in rows_by_hand(rules.size) if min(unlike_at(row, rule) for rule in rules.rows) <= lies]


class Near(Lists):
    def test_small_examples(self):
        self.assert_rules(near(Rules(2, [(0, 1)]), 0), 2, [(0, 1)])
        self.assert_rules(near(Rules(2, [(0, 1)]), 1), 2, [(0, 0), (0, 1), (1, 1)])
        self.assert_rules(near(lies=2, rules=Rules(2, [(0, 1)])), 2, rows_by_hand(2))
        self.assert_rules(near(Rules(3, [(0, 0, 0), (1, 1, 1)]), 1), 3, rows_by_hand(3))
        self.assert_rules(near(full(0), 5), 0, [()])

    def test_each_number_of_lies(self):
        for rules in small_lists() + larger_lists() + largest_lists():
            for lies in list(range(rules.size + 2)) + [10 ** 12 - 1]:
                self.assert_rules(near(rules, lies), rules.size, near_by_hand(rules, lies))

    def test_one_rule_of_eight_points(self):
        for lies in range(10):
            self.assertEqual(len(near(Rules(8, [(0, 1) * 4]), lies)), lots_up_to(8, lies))

    def test_invalid_numbers(self):
        wrong_values = [value for value in odd_values() if type(value) is not int] + [-1, -2, -(10 ** 12)]
        for wrong in wrong_values:
            for rules in (full(0), scattered(5, 3)):
                self.assert_raises_with(InvalidNumber, "value", wrong, near, rules, wrong)
                self.assert_raises_with(InvalidNumber, "value", wrong, near, lies=wrong, rules=rules)

    def test_stays(self):
        for rules in (full(0), scattered(5, 3), scattered(8, 37, 3)):
            for lies in (0, 1, 9, -1, True, None, [1]):
                self.assert_stays([rules], near, rules, lies)


class Bounds(Lists):
    """What [24] says in bold."""

    def test_near_of_near(self):
        for rules in small_lists()[::3] + larger_lists() + largest_lists():
            self.assertEqual(near(rules, 0), rules)
            for one in range(4):
                for other in range(4):
                    self.assertEqual(near(near(rules, one), other), near(rules, one + other))

    def test_free_lots(self):
        for rules in small_lists() + larger_lists() + largest_lists():
            for lies in range(rules.size + 2):
                for m in {len(lot) for lot in free_lots(near(rules, lies))}:
                    self.assertLessEqual(2 ** m, lots_up_to(m, dimension(rules)) * lots_up_to(m, lies))
