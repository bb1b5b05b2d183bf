from nextguess.errors import InvalidPoint
from nextguess.freedom import free_lots, strong_lots
from nextguess.lists import Rules
from nextguess.pushing import is_down, pushed_at, pushed_down
from nextguess.webs import ties_of
from tests.cases import Lists
from tests.samples import full, larger_lists, largest_lists, odd_values, rows_by_hand, scattered, small_lists

SOME = Rules(2, [(0, 1), (1, 0), (1, 1)])


def pushed_by_hand(rules, point):
    known = set(rules.rows)
    rows = []
    for row in rules.rows:
        lower = tuple(0 if k == point else value for k, value in enumerate(row))
        rows.append(row if row[point] == 0 or lower in known else lower)
    return sorted(rows)


def is_down_by_hand(rules):
    return all(other in set(rules.rows) for row in rules.rows for other in rows_by_hand(rules.size)
               if all(a <= b for a, b in zip(other, row)))


def yes_lots(rules):
    """The yes-points of each rule, in the order of all_lots."""
    lots = [tuple(point for point, value in enumerate(row) if value) for row in rules.rows]
    return tuple(sorted(lots, key=lambda lot: (len(lot), lot)))


class Pushing(Lists):
    def test_small_examples(self):
        self.assert_rules(pushed_at(SOME, 0), 2, [(0, 0), (0, 1), (1, 1)])
        self.assert_rules(pushed_at(SOME, 1), 2, [(0, 0), (1, 0), (1, 1)])
        self.assert_rules(pushed_at(Rules(2, [(0, 1), (1, 1)]), 0), 2, [(0, 1), (1, 1)])
        self.assert_rules(pushed_at(Rules(2, [(0, 1), (1, 1)]), 1), 2, [(0, 0), (1, 0)])
        self.assert_rules(pushed_at(Rules(3, [(1, 1, 1)]), 1), 3, [(1, 0, 1)])
        self.assert_rules(pushed_down(SOME), 2, [(0, 0), (0, 1), (1, 0)])
        self.assert_rules(pushed_down(Rules(3, [(1, 1, 1)])), 3, [(0, 0, 0)])
        self.assert_rules(pushed_down(Rules(3, [(1, 1, 1), (0, 0, 0)])), 3, [(0, 0, 0), (0, 0, 1)])
        self.assert_rules(pushed_down(full(0)), 0, [()])

    def test_at_each_point(self):
        for rules in small_lists() + larger_lists() + largest_lists():
            for point in range(rules.size):
                pushed = pushed_at(rules, point)
                self.assert_rules(pushed, rules.size, pushed_by_hand(rules, point))
                self.assertEqual(pushed_at(pushed, point), pushed)
            self.assertEqual(len(rules), len(pushed_down(rules)))

    def test_where_the_exchanged_row_is_a_rule_already(self):
        for rules in (full(3), Rules(3, [(0, 1, 1), (1, 1, 1)]), full(8)):
            self.assertEqual(pushed_at(rules, 0), rules)

    def test_by_name(self):
        self.assertEqual(pushed_at(point=1, rules=SOME), pushed_at(SOME, 1))
        self.assertEqual(pushed_down(rules=SOME), pushed_down(SOME))
        self.assertIs(is_down(rules=SOME), False)

    def test_what_is_no_point(self):
        for rules in (full(0), full(1), full(2), SOME, full(8)):
            more = [rules.size, rules.size + 1, 10 ** 12, -1, -rules.size, True, False, None, "0", (0,), [0], rules]
            for value in odd_values() + more:
                if type(value) is int and 0 <= value < rules.size:
                    continue
                self.assert_raises_with(InvalidPoint, "value", value, pushed_at, rules, value)
                self.assert_raises_with(InvalidPoint, "value", value, pushed_at, point=value, rules=rules)

    def test_stays(self):
        for rules in (full(0), SOME, scattered(5, 3), scattered(8, 37, 3)):
            for point in (0, rules.size - 1, rules.size, True, [0]):
                self.assert_stays([rules], pushed_at, rules, point)
            self.assert_stays([rules], is_down, rules)
            self.assert_stays([rules], pushed_down, rules)


class Down(Lists):
    def test_small_examples(self):
        self.assertIs(is_down(SOME), False)
        self.assertIs(is_down(Rules(2, [(0, 0), (0, 1), (1, 0)])), True)
        self.assertIs(is_down(Rules(2, [(0, 1)])), False)
        self.assertIs(is_down(Rules(2, [(0, 0), (1, 1)])), False)
        self.assertIs(is_down(Rules(3, [(0, 0, 0), (0, 0, 1), (0, 1, 0), (1, 1, 0)])), False)
        for size in range(9):
            self.assertIs(is_down(full(size)), True)
            self.assertIs(is_down(Rules(size, [(0,) * size])), True)
        self.assertIs(is_down(Rules(8, [row for row in rows_by_hand(8) if sum(row) <= 4])), True)
        self.assertIs(is_down(Rules(8, [row for row in rows_by_hand(8) if sum(row) >= 4])), False)

    def test_each_list(self):
        for rules in small_lists() + larger_lists() + largest_lists()[2:]:
            self.assertIs(is_down(rules), is_down_by_hand(rules))


class Numbers(Lists):
    """What [12] says in bold."""

    def lists(self):
        return small_lists() + larger_lists() + largest_lists()[1:4]

    def test_pushed_down_is_down(self):
        for rules in self.lists() + [full(8)]:
            pushed, by_hand = pushed_down(rules), rules
            for point in range(rules.size):
                by_hand = Rules(rules.size, pushed_by_hand(by_hand, point))
            self.assert_rules(pushed, rules.size, by_hand.rows)
            self.assertTrue(is_down_by_hand(pushed))
            self.assertIs(is_down(pushed), True)
            self.assertEqual(len(pushed), len(rules))
            self.assertEqual(pushed_down(pushed), pushed)
            if is_down(rules):
                self.assertEqual(pushed, rules)

    def test_rules_ties_and_lots_of_a_push(self):
        for rules in self.lists():
            free, strong = free_lots(rules), strong_lots(rules)
            for point in range(rules.size):
                pushed = pushed_at(rules, point)
                self.assertEqual(len(pushed), len(rules))
                self.assertGreaterEqual(len(ties_of(pushed)), len(ties_of(rules)))
                self.assertLessEqual(set(free_lots(pushed)), set(free))
                self.assertLessEqual(set(strong), set(strong_lots(pushed)))

    def test_lots_of_a_down_list(self):
        for rules in self.lists() + largest_lists():
            pushed = pushed_down(rules)
            self.assertEqual(free_lots(pushed), yes_lots(pushed))
            self.assertEqual(strong_lots(pushed), yes_lots(pushed))
