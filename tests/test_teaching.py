from nextguess.errors import InvalidLot, InvalidRow
from nextguess.lists import Rules
from nextguess.teaching import hardest, telling_lots, tells
from tests.byhand import read_by_hand, ties_by_hand
from tests.cases import Lists
from tests.samples import full, larger_lists, lots_by_hand, no_lots, odd_values, rows_by_hand, small_lists

STEPS = Rules(3, [(0, 0, 0), (0, 0, 1), (0, 1, 1), (1, 1, 1)])
SINGLES = Rules(3, [(0, 0, 0), (0, 0, 1), (0, 1, 0), (1, 0, 0)])
ALL = (0, 1, 2)


def tells_by_hand(rules, row, lot):
    return [rule for rule in rules.rows if read_by_hand(rule, lot) == read_by_hand(row, lot)] == [row]


def telling_by_hand(rules, row):
    found = [lot for lot in lots_by_hand(rules.size) if tells_by_hand(rules, row, lot)]
    return tuple(sorted(lot for lot in found if len(lot) == min(map(len, found))))


class Tells(Lists):
    def test_small_examples(self):
        self.assertIs(tells(STEPS, (0, 0, 0), (2,)), True)
        self.assertIs(tells(STEPS, (0, 0, 0), (0, 1)), False)
        self.assertIs(tells(STEPS, (0, 0, 1), (1, 2)), True)
        self.assertIs(tells(STEPS, (0, 0, 1), (1,)), False)
        self.assertIs(tells(STEPS, (0, 0, 1), ()), False)
        self.assertIs(tells(lot=(0,), row=(1, 1, 1), rules=STEPS), True)
        self.assertIs(tells(SINGLES, (0, 0, 1), (2,)), True)
        self.assertIs(tells(SINGLES, (0, 0, 0), (0, 1)), False)
        self.assertIs(tells(SINGLES, (0, 0, 0), ALL), True)

    def test_each_rule_and_lot(self):
        for rules in small_lists() + larger_lists():
            for row in rules.rows:
                for lot in lots_by_hand(rules.size)[::1 if rules.size < 4 else 5]:
                    self.assertIs(tells(rules, row, lot), tells_by_hand(rules, row, lot))

    def test_errors_and_their_order(self):
        rows = [(0, 1, 0), (1, 1), (0, 1, 1, 0), (0, True, 1), (False, 0, 0), [0, 1, 1], "011", ((0, 1, 1),)]
        for wrong in rows + odd_values():
            for lot in (ALL, (), None, (3,), [0]):
                self.assert_raises_with(InvalidRow, "value", wrong, tells, STEPS, wrong, lot)
                self.assert_raises_with(InvalidRow, "value", wrong, tells, lot=lot, row=wrong, rules=STEPS)
            self.assert_raises_with(InvalidRow, "value", wrong, telling_lots, STEPS, wrong)
            self.assert_raises_with(InvalidRow, "value", wrong, telling_lots, row=wrong, rules=STEPS)
        for wrong in no_lots(3):
            self.assert_raises_with(InvalidLot, "value", wrong, tells, STEPS, (0, 1, 1), wrong)
            self.assert_raises_with(InvalidLot, "value", wrong, tells, lot=wrong, row=(0, 1, 1), rules=STEPS)

    def test_stays(self):
        for rules in (STEPS, SINGLES, full(4), full(0)):
            for row in (rules.rows[0], rules.rows[-1], (0, 1, 0), None, list(rules.rows[0])):
                for lot in ((), (0,), (9,), [0]):
                    self.assert_stays([rules], tells, rules, row, lot)
                self.assert_stays([rules], telling_lots, rules, row)
            self.assert_stays([rules], hardest, rules)


class TellingLots(Lists):
    def test_small_examples(self):
        self.assert_told(telling_lots(STEPS, (0, 0, 0)), ((2,),))
        self.assert_told(telling_lots(STEPS, (0, 0, 1)), ((1, 2),))
        self.assert_told(telling_lots(SINGLES, (0, 0, 0)), (ALL,))
        self.assert_told(telling_lots(SINGLES, (0, 1, 0)), ((1,),))
        self.assert_told(telling_lots(Rules(3, [(0, 0, 0), (1, 1, 0)]), (0, 0, 0)), ((0,), (1,)))
        self.assert_told(telling_lots(row=(1, 1, 1), rules=Rules(3, [(1, 1, 1), (0, 0, 1), (1, 0, 0), (0, 1, 0)])), ((0, 1), (0, 2), (1, 2)))
        self.assert_told(hardest(STEPS), 2)
        self.assert_told(hardest(SINGLES), 3)
        self.assert_told(hardest(rules=Rules(3, [(0, 0, 0), (1, 1, 0)])), 1)

    def test_one_rule_alone_and_all_rows(self):
        for size in range(7):
            for row in rows_by_hand(size)[::7]:
                self.assert_told(telling_lots(Rules(size, [row]), row), ((),))
                self.assert_told(hardest(Rules(size, [row])), 0)
                self.assertIs(tells(Rules(size, [row]), row, ()), True)
                self.assert_told(telling_lots(full(size), row), (tuple(range(size)),))
            self.assert_told(hardest(full(size)), size)

    def test_each_rule_of_each_list(self):
        for rules in small_lists() + larger_lists():
            found = [telling_by_hand(rules, row) for row in rules.rows]
            for row, lots in zip(rules.rows, found):
                self.assert_told(telling_lots(rules, row), lots)
            self.assert_told(hardest(rules), max(len(lots[0]) for lots in found))


class Ties(Lists):
    """What [27] says in bold."""

    def test_a_lot_that_tells_has_every_point_of_a_tie(self):
        for rules in small_lists() + larger_lists():
            for number, row in enumerate(rules.rows):
                tied = {point for i, j, point in ties_by_hand(rules) if number in (i, j)}
                for lot in lots_by_hand(rules.size)[::1 if rules.size < 4 else 3]:
                    if tells(rules, row, lot):
                        self.assertLessEqual(tied, set(lot))
                for lot in telling_lots(rules, row):
                    self.assertLessEqual(tied, set(lot))
