from unittest import mock

from nextguess.errors import InvalidLot, InvalidRow, InvalidRules, InvalidShown, Undefined
from nextguess.lists import Rules
from tests.cases import Lists
from tests.samples import (
    full, larger_lists, largest_lists, lots_by_hand, odd_values, rows_by_hand, scattered, seen_by_hand, small_lists,
)

SOME = Rules(3, [(1, 0, 0), (0, 1, 1), (0, 0, 0), (1, 1, 1)])


def joined_by_hand(rules, other, join):
    return tuple(sorted({tuple(join(a, b) for a, b in zip(one, two)) for one in rules.rows for two in other.rows}))


class Making(Lists):
    def test_any_order_twice_list_or_tuple(self):
        rows = [(1, 1), (0, 1), (1, 1), (0, 0), (0, 1)]
        for passed in (rows, tuple(rows), rows[::-1], sorted(rows), tuple(sorted(set(rows)))):
            self.assert_rules(Rules(2, passed), 2, [(0, 0), (0, 1), (1, 1)])

    def test_all_sizes(self):
        self.assert_rules(Rules(0, [()]), 0, [()])
        self.assert_rules(Rules(0, [(), (), ()]), 0, [()])
        for size in range(9):
            rows = rows_by_hand(size)
            self.assert_rules(Rules(size, rows[::-1]), size, rows)
            self.assert_rules(Rules(size, rows[-1:]), size, rows[-1:])
        self.assertEqual(len(Rules(9, rows_by_hand(9))), 512)

    def test_the_callers_list_may_change_later_and_stays(self):
        rows = [(1, 1), (0, 1), (1, 1)]
        rules = Rules(2, rows)
        self.assertEqual(rows, [(1, 1), (0, 1), (1, 1)])
        rows.append((0, 0))
        rows[0] = (1, 0)
        self.assert_rules(rules, 2, [(0, 1), (1, 1)])
        self.assertIs(rules.has((0, 0)), False)
        self.assertIs(rules.has((1, 1)), True)
        self.assertEqual(rules, Rules(2, [(0, 1), (1, 1)]))

    def test_by_name(self):
        self.assert_rules(Rules(rows=[(0,)], size=1), 1, [(0,)])
        self.assert_rules(Rules(1, rows=((0,),)), 1, [(0,)])
        self.assertRaises(TypeError, Rules)
        self.assertRaises(TypeError, Rules, 1)

    def test_wrong_sizes(self):
        wrong = [-1, True, False, None, "1", "", [1], (1,), (), 1.0, 10 ** 12, 2, Rules(1, [(0,)])]
        for size in wrong:
            self.assert_wrong_rules(size, [(0,)])
        self.assert_wrong_rules(False, [()])
        self.assert_wrong_rules(-1, [()])
        self.assert_wrong_rules(-1, [])
        self.assert_wrong_rules(1, [()])

    def test_wrong_rows(self):
        wrong = [
            [], (), None, 0, 1, True, "", "01", "0", (0, 1), [0, 1], ((0, 1, 0),), [(0,)], [(0, 1), (0,)],
            [[0, 1]], ([0, 1],), [(0, 1), [1, 1]], [(0, 1), None], [(0, 1), ()], [(0, 1), (0, 1, 1)], [()],
            [(True, 0)], [(0, 1), (0, True)], [(False, False)], [(0, 2)], [(0, -1)], [(0, "1")], [((0,), 1)],
            [(0, None)], ["01"], [(0, 1), "01"], [((0, 1), (1, 1))], [Rules(2, [(0, 1)])], Rules(2, [(0, 1)]),
            {(0, 1): True}, {(0, 1)},
        ]
        for rows in wrong:
            self.assert_wrong_rules(2, rows)

    def test_any_value_at_all(self):
        for value in odd_values():
            if type(value) is not int or value != 1:
                self.assert_wrong_rules(value, [(0,)])
            self.assert_wrong_rules(8, value)
            self.assert_wrong_rules(8, [(0,) * 8, value])

    def assert_wrong_rules(self, size, rows):
        with self.assertRaises(InvalidRules, msg=(size, rows)) as caught:
            Rules(size, rows)
        value = caught.exception.value
        self.assertIs(type(value), tuple)
        self.assertEqual(len(value), 2)
        self.assertIs(value[0], size)
        self.assertIs(value[1], rows)

    def test_the_error_keeps_the_very_list(self):
        rows = [[0]]
        with self.assertRaises(InvalidRules) as caught:
            Rules(size=1, rows=rows)
        rows.append(5)
        self.assertIs(caught.exception.value[1], rows)


class Comparing(Lists):
    def test_equal_lists(self):
        self.assertIs(SOME == Rules(3, list(SOME.rows)[::-1]), True)
        self.assertIs(SOME != Rules(3, list(SOME.rows)[::-1]), False)
        self.assertIs(Rules(0, [()]) == Rules(0, ((),)), True)

    def test_other_lists(self):
        for other in (Rules(3, SOME.rows[1:]), full(3), Rules(4, [(0, 0, 0, 0)]), Rules(0, [()])):
            self.assertIs(SOME == other, False)
            self.assertIs(SOME != other, True)

    def test_other_kinds(self):
        for other in odd_values() + [SOME.rows, (3, SOME.rows), list(SOME.rows), mock.ANY]:
            self.assertIs(SOME == other, False)
        self.assertIs(Rules(1, [(0,)]) == (0,), False)
        self.assertIs(Rules(0, [()]) == (), False)

    def test_each_small_list_is_equal_to_itself_only(self):
        lists = small_lists()[:40]
        for i, rules in enumerate(lists):
            for j, other in enumerate(lists):
                self.assertIs(rules == other, i == j)

    def test_len(self):
        for rules in small_lists() + largest_lists():
            self.assertEqual(len(rules), len(rules.rows))
        self.assertEqual(len(full(8)), 256)
        self.assertEqual(len(Rules(1, [(0,), (0,)])), 1)

    def test_not_iterable(self):
        self.assertRaises(TypeError, iter, SOME)


class Asking(Lists):
    def test_has(self):
        for rules in small_lists() + larger_lists():
            for row in rows_by_hand(rules.size):
                self.assertIs(rules.has(row), row in list(rules.rows))
                self.assertIs(rules.has(row=list(row)), False)

    def test_has_of_any_value_at_all(self):
        for rules in (full(0), full(1), full(2), SOME):
            right = list(rules.rows)
            for value in odd_values():
                booleans = isinstance(value, tuple) and any(isinstance(member, bool) for member in value)
                self.assertIs(rules.has(value), value in right and not booleans, value)
        self.assertIs(full(1).has((True,)), False)
        self.assertIs(full(1).has((False,)), False)
        self.assertIs(full(2).has((0, True)), False)

    def test_is_closed(self):
        for rules in small_lists() + larger_lists() + largest_lists():
            closed = all(tuple(a * b for a, b in zip(one, two)) in set(rules.rows)
                         for one in rules.rows for two in rules.rows)
            self.assertIs(rules.is_closed(), closed)
        self.assertIs(Rules(2, [(0, 1), (1, 0)]).is_closed(), False)
        self.assertIs(Rules(2, [(0, 1), (1, 0), (0, 0)]).is_closed(), True)
        self.assertIs(Rules(2, [(1, 1), (1, 0)]).is_closed(), True)
        self.assertIs(Rules(3, [(0, 1, 1), (1, 0, 1), (1, 1, 0), (0, 0, 1), (0, 1, 0), (1, 0, 0)]).is_closed(), False)


class Seeing(Lists):
    def test_seen_at(self):
        self.assert_rules(SOME.seen_at((0, 2)), 2, [(0, 0), (0, 1), (1, 0), (1, 1)])
        self.assert_rules(SOME.seen_at((1, 2)), 2, [(0, 0), (1, 1)])
        self.assert_rules(SOME.seen_at(lot=()), 0, [()])
        for rules in small_lists() + larger_lists() + largest_lists()[2:4]:
            for lot in lots_by_hand(rules.size):
                self.assert_rules(rules.seen_at(lot), len(lot), seen_by_hand(rules, lot))
            self.assertEqual(rules.seen_at(tuple(range(rules.size))), rules)

    def test_wrong_lots(self):
        for lot in odd_values() + [[0], [0, 2], (0, 3), (2, 0), (1, 1), (0, True), (False, 2), (0, 1, 2, 3), (3,)]:
            right = [(), (0,), (1,), (2,), (0, 1), (0, 2), (1, 2), (0, 1, 2)]
            booleans = isinstance(lot, tuple) and any(isinstance(member, bool) for member in lot)
            if lot not in right or booleans:
                self.assert_raises_with(InvalidLot, "value", lot, SOME.seen_at, lot)
                self.assert_raises_with(InvalidLot, "value", lot, SOME.seen_at, lot=lot)

    def test_no_points_have_no_other_lots(self):
        lot = (0,)
        self.assert_raises_with(InvalidLot, "value", lot, full(0).seen_at, lot)
        self.assert_rules(full(0).seen_at(()), 0, [()])


class Joining(Lists):
    def pairs(self):
        lists = [rules for rules in small_lists() if rules.size == 2]
        pairs = [(rules, other) for rules in lists for other in lists]
        three = [rules for rules in small_lists() if rules.size == 3][::13]
        pairs += [(rules, other) for rules in three for other in three[::3]]
        pairs += [(full(0), full(0)), (full(1), Rules(1, [(1,)])), (scattered(5, 3), scattered(5, 7, 2))]
        return pairs

    def test_both_either_unlike(self):
        for rules, other in self.pairs():
            size = rules.size
            self.assert_rules(rules.both(other), size, joined_by_hand(rules, other, lambda a, b: a * b))
            self.assert_rules(rules.either(other), size, joined_by_hand(rules, other, max))
            self.assert_rules(rules.unlike(other), size, joined_by_hand(rules, other, lambda a, b: (a + b) % 2))

    def test_eight_points(self):
        self.assertEqual(full(8).both(full(8)), full(8))
        self.assertEqual(full(8).either(Rules(8, [(1,) * 8])), Rules(8, [(1,) * 8]))
        self.assertEqual(full(8).unlike(Rules(8, [(1, 0) * 4])), full(8))
        one, other = scattered(8, 5), scattered(8, 37, 3)
        self.assert_rules(one.both(other), 8, joined_by_hand(one, other, min))

    def test_small_examples(self):
        one, other = Rules(2, [(0, 1)]), Rules(2, [(1, 1), (1, 0)])
        self.assert_rules(one.both(other), 2, [(0, 0), (0, 1)])
        self.assert_rules(one.either(other), 2, [(1, 1)])
        self.assert_rules(one.unlike(other=other), 2, [(1, 0), (1, 1)])
        self.assertEqual(one.both(other=other), one.both(other))
        self.assertEqual(one.either(other=other), one.either(other))

    def test_other_sizes(self):
        for rules, other in ((SOME, full(2)), (full(2), SOME), (full(0), full(1)), (full(8), full(7))):
            for join in (rules.both, rules.either, rules.unlike):
                self.assert_raises_with(Undefined, "what", "size", join, other)

    def test_turned(self):
        self.assert_rules(SOME.turned((1, 0, 1)), 3, [(0, 0, 1), (0, 1, 0), (1, 0, 1), (1, 1, 0)])
        self.assert_rules(SOME.turned(row=(0, 0, 0)), 3, SOME.rows)
        for rules in small_lists()[::3] + largest_lists():
            for row in rows_by_hand(rules.size)[::5]:
                turned = rules.turned(row)
                self.assert_rules(turned, rules.size, joined_by_hand(rules, Rules(rules.size, [row]), lambda a, b: a ^ b))
                self.assertEqual(turned.turned(row), rules)
                self.assertEqual(len(turned), len(rules))

    def test_beside(self):
        self.assert_rules(Rules(1, [(1,)]).beside(Rules(2, [(0, 1), (1, 1)])), 3, [(1, 0, 1), (1, 1, 1)])
        self.assert_rules(Rules(2, [(0, 1), (1, 1)]).beside(other=Rules(1, [(1,)])), 3, [(0, 1, 1), (1, 1, 1)])
        for rules in small_lists()[::17]:
            for other in small_lists()[::19]:
                rows = sorted(one + two for one in rules.rows for two in other.rows)
                self.assert_rules(rules.beside(other), rules.size + other.size, rows)
        self.assertEqual(full(4).beside(full(4)), full(8))
        self.assertEqual(full(8).beside(full(0)), full(8))
        self.assertEqual(full(0).beside(SOME), SOME)

    def test_beside_of_more_than_eight(self):
        for rules, other in ((full(5), full(4)), (full(8), full(1)), (full(1), Rules(8, [(0,) * 8])), (full(7), full(2))):
            self.assert_raises_with(Undefined, "what", "size", rules.beside, other)


class Rows(Lists):
    def test_with_rule(self):
        self.assert_rules(SOME.with_rule((1, 1, 0)), 3, SOME.rows[:3] + ((1, 1, 0),) + SOME.rows[3:])
        self.assert_rules(SOME.with_rule(row=(1, 0, 0)), 3, SOME.rows)
        for rules in small_lists()[::3] + largest_lists():
            for row in rows_by_hand(rules.size)[::3]:
                self.assert_rules(rules.with_rule(row), rules.size, sorted(set(rules.rows) | {row}))

    def test_without(self):
        self.assert_rules(SOME.without((1, 0, 0)), 3, [(0, 0, 0), (0, 1, 1), (1, 1, 1)])
        self.assert_rules(SOME.without(row=(0, 0, 0)), 3, [(0, 1, 1), (1, 0, 0), (1, 1, 1)])
        for rules in small_lists()[::3] + largest_lists():
            for row in rules.rows[::5]:
                if len(rules) > 1:
                    self.assert_rules(rules.without(row), rules.size, [rule for rule in rules.rows if rule != row])

    def test_without_what_is_no_rule_or_the_only_one(self):
        self.assert_raises_with(Undefined, "what", "rules", SOME.without, (1, 1, 0))
        for rules in (Rules(0, [()]), Rules(1, [(0,)]), Rules(8, [(0,) * 8])):
            self.assert_raises_with(Undefined, "what", "rules", rules.without, rules.rows[0])
        self.assert_raises_with(Undefined, "what", "rules", Rules(1, [(0,)]).without, (1,))

    def test_wrong_rows_come_first(self):
        wrong = odd_values() + [
            [0, 0, 0], (0, 0), (0, 0, 0, 0), (0, 0, 2), (0, 0, True), (False, 0, 0), (1, 1, None), ((0, 0, 0),), (0, 1, [1]),
        ]
        for rules in (SOME, Rules(3, [(0, 0, 0)]), full(3)):
            for row in wrong:
                self.assert_raises_with(InvalidRow, "value", row, rules.turned, row)
                self.assert_raises_with(InvalidRow, "value", row, rules.with_rule, row)
                self.assert_raises_with(InvalidRow, "value", row, rules.without, row)
                self.assert_raises_with(InvalidRow, "value", row, rules.without, row=row)

    def test_others(self):
        self.assert_rules(SOME.others(), 3, [(0, 0, 1), (0, 1, 0), (1, 0, 1), (1, 1, 0)])
        for rules in small_lists() + larger_lists() + largest_lists():
            rows = rows_by_hand(rules.size)
            if len(rules) == len(rows):
                self.assert_raises_with(Undefined, "what", "rules", rules.others)
            else:
                others = rules.others()
                self.assert_rules(others, rules.size, [row for row in rows if row not in set(rules.rows)])
                self.assertEqual(others.others(), rules)


class Shown(Lists):
    def test_right_ones(self):
        for value in ((), ((0, 0),), ((0, 1),), ((2, 1),), ((0, 1), (1, 0)), ((0, 0), (2, 1)), ((0, 1), (1, 1), (2, 1))):
            self.assertIs(SOME.is_shown(value), True, value)
            self.assertIs(SOME.is_shown(value=value), True, value)
        self.assertIs(full(0).is_shown(()), True)
        self.assertIs(full(8).is_shown(tuple((point, point % 2) for point in range(8))), True)

    def wrong_ones(self):
        return [
            [], [(0, 1)], ([0, 1],), ((0, 1), [1, 0]), ((3, 1),), ((-1, 1),), ((0, 2),), ((0, -1),), ((0, True),),
            ((False, 1),), ((True, 1),), ((0, None),), (("0", 1),), ((0, "1"),), ((None, 1),), ((0,),), ((0, 1, 1),),
            ((0, 1), (0, 1)), ((0, 1), (0, 0)), ((1, 1), (0, 1)), ((0, 1), (2, 1), (1, 1)), ((0, 1), ()), (0, 1), (1, 0),
            ((0, 1), None), (((0, 1), (1, 1)),), (((0,), 1),), ((0, (1,)),), (([0], 1),), ((0, 1), (1, 1), (2, 1), (3, 1)),
            "", "01", ("01",), None, True, 0, SOME, (SOME,), ((0, SOME),), ((SOME, 0),), ((10 ** 12, 1),),
        ]

    def test_wrong_ones(self):
        for value in self.wrong_ones():
            self.assertIs(SOME.is_shown(value), False, value)
            self.assert_raises_with(InvalidShown, "value", value, SOME.fitting, value)
            self.assert_raises_with(InvalidShown, "value", value, SOME.fitting, shown=value)

    def test_any_value_at_all(self):
        for value in odd_values():
            self.assertIs(SOME.is_shown(value), value == () or value == ((0, 1), (1, 0)), value)
            self.assertIs(full(0).is_shown(value), value == (), value)

    def test_wrong_ones_come_before_no_rule_fits(self):
        value = ((0, 1), (1, True))
        self.assert_raises_with(InvalidShown, "value", value, Rules(2, [(0, 0)]).fitting, value)

    def test_fitting(self):
        self.assert_rules(SOME.fitting(()), 3, SOME.rows)
        self.assert_rules(SOME.fitting(((0, 0),)), 3, [(0, 0, 0), (0, 1, 1)])
        self.assert_rules(SOME.fitting(shown=((0, 1), (2, 0))), 3, [(1, 0, 0)])
        self.assert_rules(SOME.fitting(((0, 1), (1, 1), (2, 1))), 3, [(1, 1, 1)])
        for shown in (((0, 1), (1, 1), (2, 0)), ((1, 0), (2, 1)), ((1, 1), (2, 0))):
            self.assert_raises_with(Undefined, "what", "rules", SOME.fitting, shown)
        self.assert_rules(full(0).fitting(()), 0, [()])

    def test_fitting_each_row_at_each_lot(self):
        for rules in small_lists()[::3] + larger_lists()[:4] + [scattered(8, 37, 3)]:
            for row in rows_by_hand(rules.size)[::9]:
                for lot in lots_by_hand(rules.size):
                    shown = tuple((point, row[point]) for point in lot)
                    rows = [rule for rule in rules.rows if all(rule[point] == row[point] for point in lot)]
                    self.assertIs(rules.is_shown(shown), True)
                    if rows:
                        self.assert_rules(rules.fitting(shown), rules.size, rows)
                    else:
                        self.assert_raises_with(Undefined, "what", "rules", rules.fitting, shown)


class Staying(Lists):
    def calls(self, rules, other):
        """Each method of the list, as (call, arguments)."""
        row = rules.rows[0]
        lot = tuple(range(0, rules.size, 2))
        return [
            (rules.has, (row,)), (rules.seen_at, (lot,)), (rules.turned, (row,)), (rules.both, (other,)),
            (rules.either, (other,)), (rules.unlike, (other,)), (rules.beside, (full(0),)), (rules.with_rule, (row,)),
            (rules.without, (row,)), (rules.others, ()), (rules.is_closed, ()), (rules.is_shown, (((0, 1),),)),
            (rules.fitting, (((0, row[0]),),)), (rules.fitting, (((0, True),),)), (rules.seen_at, ((99,),)),
        ]

    def test_lists_stay_and_the_same_call_returns_the_same(self):
        for rules in (SOME, full(3), Rules(1, [(1,)]), scattered(5, 3), scattered(8, 37, 3), full(8)):
            other = Rules(rules.size, rules.rows[-1:])
            for call, arguments in self.calls(rules, other):
                self.assert_stays((rules, other), call, *arguments)
