from itertools import combinations

from nextguess.errors import InvalidLot, InvalidRow, Undefined
from nextguess.freedom import dimension, free_lots
from nextguess.guessers import Guesser
from nextguess.keeping import fewest_kept, keeps, most_kept, rebuilt
from nextguess.lists import Rules
from tests.byhand import is_closed_by_hand, read_by_hand
from tests.cases import Lists, is_made_of_tuples
from tests.samples import full, larger_lists, lots_by_hand, no_lots, odd_values, rows_by_hand, small_lists

STEPS = Rules(3, [(0, 0, 0), (0, 0, 1), (0, 1, 1), (1, 1, 1)])
OPEN = Rules(2, [(0, 1), (1, 0)])
HIGH = Rules(3, [(0, 1, 0), (0, 1, 1)])
ALL = (0, 1, 2)


def closed_lists():
    """Every list of up to 3 points, and some larger ones, that have the and of each two rules."""
    larger = [rules for rules in larger_lists() if is_closed_by_hand(rules)]
    boxes = Rules(6, [(0,) * 6] + [tuple(int(a <= k < b) for k in range(6)) for a in range(6) for b in range(a, 7)])
    return [rules for rules in small_lists() if is_closed_by_hand(rules)] + larger + [boxes]


def and_by_hand(rules, kept):
    """The and of all rules that have yes at all points kept, None if none has."""
    rows = [row for row in rules.rows if all(row[point] == 1 for point in kept)]
    return tuple(int(all(row[point] for row in rows)) for point in range(rules.size)) if rows else None


def keeps_by_hand(rules, row, lot, kept):
    """What keeps is to tell, by the words of DOC.md."""
    if type(kept) is not tuple or not is_made_of_tuples(kept) or kept not in lots_by_hand(rules.size):
        return False
    if any(point not in lot or row[point] == 0 for point in kept):
        return False
    return read_by_hand(and_by_hand(rules, kept), lot) == read_by_hand(row, lot)


def fewest_by_hand(rules, row, lot):
    for many in range(len(lot) + 1):
        found = tuple(kept for kept in combinations(lot, many) if keeps_by_hand(rules, row, lot, kept))
        if found:
            return found
    raise AssertionError("none")


class Rebuilt(Lists):
    def test_small_examples(self):
        self.assert_told(rebuilt(STEPS, ()), (0, 0, 0))
        self.assert_told(rebuilt(STEPS, (1,)), (0, 1, 1))
        self.assert_told(rebuilt(STEPS, (0,)), (1, 1, 1))
        self.assert_told(rebuilt(STEPS, (0, 2)), (1, 1, 1))
        self.assert_told(rebuilt(kept=(), rules=HIGH), (0, 1, 0))
        self.assert_told(rebuilt(HIGH, (2,)), (0, 1, 1))
        self.assert_told(rebuilt(full(0), ()), ())
        self.assert_raises_with(Undefined, "what", "rules", rebuilt, HIGH, (0,))
        self.assert_raises_with(Undefined, "what", "rules", rebuilt, HIGH, (0, 1))

    def test_each_lot(self):
        for rules in closed_lists():
            for kept in lots_by_hand(rules.size):
                wanted = and_by_hand(rules, kept)
                if wanted is None:
                    self.assert_raises_with(Undefined, "what", "rules", rebuilt, rules, kept)
                    self.assert_raises_with(Undefined, "what", "rules", rebuilt, kept=kept, rules=rules)
                else:
                    self.assert_told(rebuilt(rules, kept), wanted)
                    self.assertTrue(rules.has(wanted))

    def test_errors_and_their_order(self):
        for rules in [rules for rules in small_lists() if not is_closed_by_hand(rules)][::5] + [OPEN]:
            for kept in ((), (0,), (9,), None, [0]):
                self.assert_raises_with(Undefined, "what", "and", rebuilt, rules, kept)
        for rules in (STEPS, HIGH):
            for wrong in no_lots(3):
                self.assert_raises_with(InvalidLot, "value", wrong, rebuilt, rules, wrong)
                self.assert_raises_with(InvalidLot, "value", wrong, rebuilt, kept=wrong, rules=rules)


class Keeps(Lists):
    def test_small_examples(self):
        self.assertIs(keeps(STEPS, (0, 1, 1), ALL, (1,)), True)
        self.assertIs(keeps(STEPS, (0, 1, 1), ALL, (1, 2)), True)
        self.assertIs(keeps(STEPS, (0, 1, 1), ALL, (2,)), False)
        self.assertIs(keeps(STEPS, (0, 1, 1), (0, 2), (2,)), True)
        self.assertIs(keeps(STEPS, (0, 1, 1), (0, 2), (1,)), False)
        self.assertIs(keeps(STEPS, (0, 1, 1), ALL, (0,)), False)
        self.assertIs(keeps(STEPS, (0, 0, 0), ALL, ()), True)
        self.assertIs(keeps(STEPS, (0, 1, 1), ALL, ()), False)
        self.assertIs(keeps(STEPS, (0, 1, 1), (), ()), True)
        self.assertIs(keeps(kept=(2,), lot=(2,), row=(1, 1, 1), rules=STEPS), True)
        self.assertIs(keeps(STEPS, (0, 1, 1), ALL, [1]), False)
        self.assertIs(keeps(STEPS, (0, 1, 1), ALL, (True,)), False)

    def test_each_row_lot_and_kept(self):
        for rules in closed_lists():
            step = 1 if rules.size < 4 else 7
            for row in rules.rows[::step]:
                for lot in lots_by_hand(rules.size)[::step]:
                    for kept in lots_by_hand(rules.size)[::step]:
                        self.assertIs(keeps(rules, row, lot, kept), keeps_by_hand(rules, row, lot, kept))

    def test_any_value_at_all_is_kept_or_not(self):
        for row in STEPS.rows:
            for kept in odd_values() + no_lots(3):
                self.assertIs(keeps(STEPS, row, ALL, kept), keeps_by_hand(STEPS, row, ALL, kept), kept)
                self.assertIs(keeps(full(3), row, ALL, kept), keeps_by_hand(full(3), row, ALL, kept), kept)

    def test_errors_and_their_order(self):
        for rules in [rules for rules in small_lists() if not is_closed_by_hand(rules)][::5]:
            for row, lot, kept in (((0,) * rules.size, (), ()), (None, None, None), ((1,), (0,), [9])):
                self.assert_raises_with(Undefined, "what", "and", keeps, rules, row, lot, kept)
                self.assert_raises_with(Undefined, "what", "and", fewest_kept, rules, row, lot)
            self.assert_raises_with(Undefined, "what", "and", most_kept, rules)
            self.assert_raises_with(Undefined, "what", "and", most_kept, rules=rules)
        rows = [(0, 1, 0), (1, 1), (0, 1, 1, 0), (0, True, 1), (0, 1, True), [0, 1, 1], "011", None, ((0, 1, 1),)]
        for wrong in rows + odd_values():
            for lot in (ALL, (), None, (3,)):
                self.assert_raises_with(InvalidRow, "value", wrong, keeps, STEPS, wrong, lot, ())
                self.assert_raises_with(InvalidRow, "value", wrong, fewest_kept, STEPS, wrong, lot)
                self.assert_raises_with(InvalidRow, "value", wrong, keeps, kept=None, lot=lot, row=wrong, rules=STEPS)
        for wrong in no_lots(3):
            for kept in ((), (1,), None):
                self.assert_raises_with(InvalidLot, "value", wrong, keeps, STEPS, (0, 1, 1), wrong, kept)
            self.assert_raises_with(InvalidLot, "value", wrong, fewest_kept, STEPS, (0, 1, 1), wrong)
            self.assert_raises_with(InvalidLot, "value", wrong, fewest_kept, lot=wrong, row=(0, 1, 1), rules=STEPS)

    def test_stays(self):
        for rules in (STEPS, HIGH, OPEN, full(4)):
            for kept in ((), (0,), [0], None):
                self.assert_stays([rules], rebuilt, rules, kept)
                self.assert_stays([rules], keeps, rules, rules.rows[-1], (0, 1), kept)
            for lot in ((), (0, 1), [0], None):
                self.assert_stays([rules], fewest_kept, rules, rules.rows[-1], lot)
            self.assert_stays([rules], most_kept, rules)


class Fewest(Lists):
    def test_small_examples(self):
        self.assert_told(fewest_kept(STEPS, (0, 1, 1), ALL), ((1,),))
        self.assert_told(fewest_kept(STEPS, (1, 1, 1), (1, 2)), ((1,),))
        self.assert_told(fewest_kept(STEPS, (0, 0, 0), ALL), ((),))
        self.assert_told(fewest_kept(STEPS, (0, 1, 1), ()), ((),))
        self.assert_told(fewest_kept(full(3), (1, 0, 1), ALL), ((0, 2),))
        self.assert_told(fewest_kept(lot=ALL, row=(0, 1, 1), rules=Rules(3, [(0, 0, 0), (0, 1, 1)])), ((1,), (2,)))
        self.assert_told(fewest_kept(HIGH, (0, 1, 1), ALL), ((2,),))
        self.assert_told(fewest_kept(full(0), (), ()), ((),))
        stretches = Rules(4, [(0,) * 4] + [tuple(int(a <= k < b) for k in range(4)) for a in range(4) for b in range(a, 5)])
        self.assert_told(fewest_kept(stretches, (1, 1, 1, 0), (0, 1, 2, 3)), ((0, 2),))
        self.assert_told(most_kept(stretches), 2)

    def test_each_row_and_lot(self):
        for rules in closed_lists():
            step = 1 if rules.size < 4 else 5
            for row in rules.rows[::step]:
                for lot in lots_by_hand(rules.size)[::step]:
                    self.assert_told(fewest_kept(rules, row, lot), fewest_by_hand(rules, row, lot))

    def test_most_kept(self):
        for rules in closed_lists():
            if rules.size < 5:
                most = max(len(fewest_by_hand(rules, row, lot)[0]) for row in rules.rows for lot in lots_by_hand(rules.size))
                self.assert_told(most_kept(rules), most)
            self.assert_told(most_kept(rules=rules), dimension(rules))

    def test_all_points_of_a_free_lot_are_kept(self):
        for rules in closed_lists()[-4:]:
            lot = free_lots(rules)[-1]
            row = [row for row in rules.rows if all(row[point] == 1 for point in lot)][0]
            self.assertEqual(fewest_kept(rules, row, lot), (lot,))
            self.assertEqual(len(lot), most_kept(rules))


class Bounds(Lists):
    """What [22] says in bold."""

    def test_each_lot_of_the_fewest_is_free(self):
        for rules in closed_lists():
            free = free_lots(rules)
            for row in rules.rows[::1 if rules.size < 4 else 5]:
                for lot in lots_by_hand(rules.size)[::1 if rules.size < 4 else 5]:
                    self.assertTrue(all(kept in free for kept in fewest_kept(rules, row, lot)))

    def test_what_closing_misses_is_kept(self):
        for rules in closed_lists():
            guesser = Guesser(rules, "closing")
            for row in rules.rows[::1 if rules.size < 4 else 9]:
                for lot in lots_by_hand(rules.size)[::1 if rules.size < 4 else 9]:
                    missed = {point for point, miss in zip(lot, guesser.misses(lot, row)) if miss == (1, 1)}
                    for many in range(len(lot) + 1):
                        for kept in combinations(lot, many):
                            if keeps(rules, row, lot, kept):
                                self.assertLessEqual(missed, set(kept))

    def test_all_rows(self):
        for size in range(7):
            self.assertEqual(most_kept(full(size)), size)
            for row in rows_by_hand(size)[::5]:
                yes = tuple(point for point, value in enumerate(row) if value == 1)
                self.assertEqual(fewest_kept(full(size), row, tuple(range(size))), (yes,))
