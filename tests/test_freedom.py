from itertools import combinations, product

from nextguess.errors import InvalidLot
from nextguess.freedom import (
    dimension, dimension_holds, dimension_paper, free_lots, is_free, is_strongly_free, lots_up_to, strong_lots,
)
from nextguess.lists import Rules
from tests.cases import Lists, is_made_of_tuples
from tests.samples import (
    full, larger_lists, largest_lists, lots_by_hand, no_lots, odd_values, rows_by_hand, scattered, seen_by_hand, small_lists, spoilt,
)

SOME = Rules(3, [(0, 0, 0), (0, 0, 1), (0, 1, 0), (1, 1, 1)])
STEPS = Rules(3, [(0, 0, 0), (0, 0, 1), (0, 1, 1), (1, 1, 1)])


def is_free_by_hand(rules, lot):
    return seen_by_hand(rules, lot) == tuple(rows_by_hand(len(lot)))


def is_strongly_free_by_hand(rules, lot):
    rest = [point for point in range(rules.size) if point not in lot]
    known = set(rules.rows)
    for outer in rows_by_hand(len(rest)):
        found = 0
        for inner in rows_by_hand(len(lot)):
            values = {**dict(zip(rest, outer)), **dict(zip(lot, inner))}
            found += tuple(values[point] for point in range(rules.size)) in known
        if found == 2 ** len(lot):
            return True
    return False


def free_by_hand(rules):
    return tuple(lot for lot in lots_by_hand(rules.size) if is_free_by_hand(rules, lot))


def strong_by_hand(rules):
    return tuple(lot for lot in lots_by_hand(rules.size) if is_strongly_free_by_hand(rules, lot))


def has_form(claim, paper):
    """Whether a claim is a pair of a word and a number, a paper a pair of tuples, all of it tuples and integers."""
    if type(claim) is not tuple or type(paper) is not tuple or len(claim) != 2 or len(paper) != 2:
        return False
    if type(claim[0]) is not str or type(claim[1]) is not int or not is_made_of_tuples(paper):
        return False
    return type(paper[0]) is tuple and type(paper[1]) is tuple


def holds_by_hand(rules, claim, paper):
    """What dimension_holds is to tell, by the words of DOC.md."""
    if not has_form(claim, paper) or claim[0] != "dimension":
        return False
    lot, bars = paper
    if lot not in lots_by_hand(rules.size) or len(lot) != claim[1] or not is_free_by_hand(rules, lot):
        return False
    wider = list(combinations(range(rules.size), len(lot) + 1))
    rows = rows_by_hand(len(lot) + 1)
    return len(bars) == len(wider) and all(
        bar in rows and bar not in seen_by_hand(rules, other) for other, bar in zip(wider, bars)
    )


class Free(Lists):
    def test_small_examples(self):
        self.assertIs(is_free(SOME, ()), True)
        self.assertIs(is_free(SOME, (0,)), True)
        self.assertIs(is_free(SOME, (1, 2)), True)
        self.assertIs(is_free(SOME, (0, 1)), False)
        self.assertIs(is_free(SOME, (0, 1, 2)), False)
        self.assertIs(is_strongly_free(SOME, ()), True)
        self.assertIs(is_strongly_free(SOME, (0,)), False)
        self.assertIs(is_strongly_free(SOME, (1,)), True)
        self.assertIs(is_strongly_free(SOME, (2,)), True)
        self.assertIs(is_strongly_free(SOME, (1, 2)), False)
        self.assert_told(free_lots(SOME), ((), (0,), (1,), (2,), (1, 2)))
        self.assert_told(strong_lots(SOME), ((), (1,), (2,)))
        self.assertEqual(dimension(SOME), 2)

    def test_no_points_one_rule_all_rows(self):
        self.assert_told(free_lots(full(0)), ((),))
        self.assert_told(strong_lots(full(0)), ((),))
        self.assertEqual(dimension(full(0)), 0)
        self.assertEqual(dimension(Rules(8, [(1, 0) * 4])), 0)
        self.assert_told(strong_lots(Rules(8, [(1, 0) * 4])), ((),))
        for size in range(9):
            self.assertEqual(dimension(full(size)), size)
            self.assert_told(free_lots(full(size)), tuple(lots_by_hand(size)))
            self.assert_told(strong_lots(full(size)), tuple(lots_by_hand(size)))

    def test_known_dimensions(self):
        stretches, steps, parities = larger_lists()[:3]
        self.assertEqual((dimension(stretches), dimension(steps), dimension(parities)), (2, 1, 2))
        self.assertEqual(dimension(Rules(8, [row for row in rows_by_hand(8) if sum(row) <= 4])), 4)
        self.assertEqual(dimension(Rules(8, [row for row in rows_by_hand(8) if sum(row) % 2 == 0])), 7)

    def test_all_small_and_some_larger_lists(self):
        for rules in small_lists() + larger_lists():
            free, strong = free_by_hand(rules), strong_by_hand(rules)
            self.assert_told(free_lots(rules), free)
            self.assert_told(strong_lots(rules=rules), strong)
            self.assert_told(dimension(rules), max(len(lot) for lot in free))
            for lot in lots_by_hand(rules.size):
                self.assertIs(is_free(rules, lot), lot in free)
                self.assertIs(is_strongly_free(rules, lot), lot in strong)

    def test_eight_points(self):
        for rules in largest_lists():
            free = free_by_hand(rules)
            self.assert_told(free_lots(rules=rules), free)
            self.assertEqual(dimension(rules=rules), len(free[-1]))
            strong = strong_lots(rules)
            self.assertEqual(list(strong), [lot for lot in lots_by_hand(8) if lot in strong])
            for lot in lots_by_hand(8)[::11]:
                self.assertIs(is_strongly_free(rules, lot), is_strongly_free_by_hand(rules, lot))
                self.assertIs(lot in strong, is_strongly_free(lot=lot, rules=rules))
                self.assertIs(is_free(lot=lot, rules=rules), lot in free)

    def test_wrong_lots(self):
        for lot in no_lots(3):
            for ask in (is_free, is_strongly_free):
                self.assert_raises_with(InvalidLot, "value", lot, ask, SOME, lot)
                self.assert_raises_with(InvalidLot, "value", lot, ask, lot=lot, rules=SOME)
        for ask in (is_free, is_strongly_free):
            lot = (0,)
            self.assert_raises_with(InvalidLot, "value", lot, ask, full(0), lot)

    def test_lots_up_to(self):
        for size in range(9):
            for d in range(size + 3):
                self.assert_told(lots_up_to(size, d), len([lot for lot in lots_by_hand(size) if len(lot) <= d]))
        self.assertEqual(lots_up_to(8, 10 ** 12 - 1), 256)
        self.assertEqual(lots_up_to(0, 0), 1)
        self.assertEqual(lots_up_to(d=1, size=5), 6)

    def test_stays(self):
        for rules in (full(0), SOME, scattered(5, 3), scattered(8, 37, 3)):
            for ask in (free_lots, strong_lots, dimension, dimension_paper):
                self.assert_stays([rules], ask, rules)
            for lot in ((), (0,), (99,), [0], True):
                self.assert_stays([rules], is_free, rules, lot)
                self.assert_stays([rules], is_strongly_free, rules, lot)


class Numbers(Lists):
    """What [10] says in bold."""

    def test_strong_rules_free(self):
        for rules in small_lists() + larger_lists() + largest_lists():
            numbers = [len(strong_lots(rules)), len(rules), len(free_lots(rules))]
            numbers.append(lots_up_to(rules.size, dimension(rules)))
            self.assertEqual(numbers, sorted(numbers))

    def test_others(self):
        for rules in small_lists() + larger_lists() + largest_lists():
            if len(rules) < 2 ** rules.size:
                self.assertEqual(len(free_lots(rules)) + len(strong_lots(rules.others())), 2 ** rules.size)

    def test_beside(self):
        three = [rules for rules in small_lists() if rules.size == 3][::17]
        pairs = [(one, other) for one in small_lists()[::7] for other in small_lists()[::11]]
        pairs += list(zip(three, [scattered(5, 3), scattered(5, 7, 2), larger_lists()[0]] * 3))
        for one, other in pairs:
            both = one.beside(other)
            self.assertEqual(dimension(both), dimension(one) + dimension(other))
            self.assertEqual(len(free_lots(both)), len(free_lots(one)) * len(free_lots(other)))
            self.assertEqual(len(strong_lots(both)), len(strong_lots(one)) * len(strong_lots(other)))


class Papers(Lists):
    def test_a_right_paper_by_hand(self):
        self.assertIs(dimension_holds(SOME, ("dimension", 2), ((1, 2), ((0, 1, 1),))), True)
        self.assertIs(dimension_holds(SOME, ("dimension", 2), ((1, 2), ((1, 0, 0),))), True)
        self.assertIs(dimension_holds(SOME, ("dimension", 2), ((1, 2), ((1, 1, 1),))), False)
        self.assertIs(dimension_holds(SOME, ("dimension", 2), ((0, 1), ((0, 1, 1),))), False)
        self.assertIs(dimension_holds(STEPS, ("dimension", 1), ((2,), ((1, 0), (1, 0), (1, 0)))), True)
        self.assertIs(dimension_holds(STEPS, ("dimension", 1), ((2,), ((1, 0), (1, 0), (0, 1)))), False)
        self.assertIs(dimension_holds(full(0), ("dimension", 0), ((), ())), True)
        self.assertIs(dimension_holds(full(3), ("dimension", 3), ((0, 1, 2), ())), True)
        self.assertIs(dimension_holds(Rules(2, [(0, 1)]), ("dimension", 0), ((), ((1,), (0,)))), True)
        self.assertIs(dimension_holds(Rules(2, [(0, 1)]), ("dimension", 0), ((), ((1,), (1,)))), False)

    def test_the_paper_is_taken_with_the_true_claim_only(self):
        for rules in small_lists() + larger_lists() + largest_lists():
            d = dimension(rules)
            paper = dimension_paper(rules)
            self.assertTrue(holds_by_hand(rules, ("dimension", d), paper))
            self.assertIs(dimension_holds(rules, ("dimension", d), paper), True)
            self.assertIs(dimension_holds(rules, ("dimension", d + 1), paper), False)
            self.assertIs(dimension_holds(rules, ("dimension", d - 1), paper), False)
            self.assertIs(dimension_holds(paper=dimension_paper(rules=rules), claim=("dimension", d), rules=rules), True)

    def test_no_paper_of_another_claim(self):
        # Every claim and every tuple that has a paper's form.
        for rules in [rules for rules in small_lists() if rules.size < 3] + small_lists()[20::25]:
            for d in range(rules.size + 2):
                wider = list(combinations(range(rules.size), d + 1))
                for lot in combinations(range(rules.size), d):
                    for bars in product(rows_by_hand(d + 1), repeat=len(wider)):
                        holds = dimension_holds(rules, ("dimension", d), (lot, bars))
                        self.assertIs(holds, holds_by_hand(rules, ("dimension", d), (lot, bars)))
                        self.assertLessEqual(holds, d == dimension(rules))

    def test_one_bar_less_is_no_paper_of_one_point_less(self):
        for rules in (full(1), full(3), STEPS, scattered(5, 3), full(8)):
            d = dimension(rules)
            lot, bars = dimension_paper(rules)
            self.assertIs(dimension_holds(rules, ("dimension", d - 1), (lot[1:], bars)), False)
            self.assertIs(dimension_holds(rules, ("dimension", d - 1), (lot[1:], ())), False)

    def test_spoilt_at_one_place(self):
        for rules in (full(0), full(2), Rules(2, [(0, 1)]), SOME, STEPS, Rules(4, [(0, 1, 1, 0), (1, 0, 0, 1)]), larger_lists()[2]):
            claim, paper = ("dimension", dimension(rules)), dimension_paper(rules)
            for other in spoilt(claim):
                self.assertIs(dimension_holds(rules, other, paper), False, other)
            wrong = 0
            for other in spoilt(paper):
                right = holds_by_hand(rules, claim, other)
                wrong += not right
                self.assertIs(dimension_holds(rules, claim, other), right, other)
            self.assertGreater(wrong, 20)

    def test_bars_exchanged_and_bars_that_are_read(self):
        rules = Rules(2, [(0, 1)])
        self.assertIs(dimension_holds(rules, ("dimension", 0), ((), ((0,), (1,)))), False)
        for rules in larger_lists():
            claim, (lot, bars) = ("dimension", dimension(rules)), dimension_paper(rules)
            for place, wider in list(enumerate(combinations(range(rules.size), len(lot) + 1)))[::3]:
                for read in seen_by_hand(rules, wider)[::2]:
                    other = bars[:place] + (read,) + bars[place + 1:]
                    self.assertIs(dimension_holds(rules, claim, (lot, other)), False)

    def test_any_values_at_all(self):
        for rules in (full(0), full(1), SOME, full(8)):
            claim, paper = ("dimension", dimension(rules)), dimension_paper(rules)
            for value in odd_values() + [claim, paper, ("dimension",), ("misses", 0), ("mean", (0, 1)), rules]:
                for other_claim, other_paper in (
                    (value, paper), (claim, value), (value, value), (("dimension", value), paper), ((value, claim[1]), paper),
                    (claim, (value, value)), (claim, (value, paper[1])), (claim, (paper[0], value)), (claim, (paper[0], (value,))),
                ):
                    right = holds_by_hand(rules, other_claim, other_paper)
                    self.assertIs(dimension_holds(rules, other_claim, other_paper), right, value)
        self.assertIs(dimension_holds(full(1), ("dimension", True), ((0,), ())), False)
        self.assertIs(dimension_holds(Rules(1, [(0,)]), ("dimension", False), ((), ((1,),))), False)
        self.assertIs(dimension_holds(Rules(1, [(0,)]), ("dimension", 0), ((), ((True,),))), False)
        self.assertIs(dimension_holds(full(1), ("dimension", 1), ((False,), ())), False)
        self.assertIs(dimension_holds(full(1), ("dimension", 10 ** 12), ((0,), ())), False)

    def test_stays(self):
        for rules in (SOME, STEPS, full(4)):
            claim, paper = ("dimension", dimension(rules)), dimension_paper(rules)
            self.assert_stays([rules], dimension_holds, rules, claim, paper)
            self.assert_stays([rules], dimension_holds, rules, paper, claim)
            self.assert_stays([rules], dimension_holds, rules, list(claim), [paper])
