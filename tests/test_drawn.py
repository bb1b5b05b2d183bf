from fractions import Fraction
from itertools import product

from nextguess.drawn import best_drawn, least_mean, mean_holds, mean_paper, means_of
from nextguess.errors import InvalidGuess
from nextguess.freedom import dimension
from nextguess.guesses import best_guess, least_worst, misses_of
from nextguess.lists import Rules
from nextguess.shares import is_below, plus, rounded_up, share_of
from tests.byhand import (
    densest_by_hand, figures, fraction, is_drawn_by_hand, is_part_by_hand, is_share_by_hand, means_by_hand, pair,
    ties_by_hand, within_by_hand,
)
from tests.cases import Lists
from tests.samples import (
    NO_CHANCES, exchanged_at, full, larger_lists, largest_lists, odd_values, scattered, small_lists, spoilt,
)

SOME = Rules(3, [(0, 0, 0), (0, 0, 1), (0, 1, 1), (1, 0, 1), (1, 1, 0)])
NO_TIE = Rules(3, [(0, 0, 0), (0, 1, 1), (1, 0, 1)])
CHANCES = [(0, 1), (1, 1), (1, 2), (1, 3), (2, 3), (3, 4), (999999999998, 999999999999), (1, 10 ** 11), (5, 11)]


def drawn_samples(rules):
    """Some drawn guesses of a list."""
    many = len(ties_by_hand(rules))
    steps = (0, 1, 2, 5, 7)
    return [tuple(CHANCES[(start + step * k) % len(CHANCES)] for k in range(many)) for start, step in enumerate(steps)]


def holds_by_hand(rules, claim, paper):
    """What mean_holds is to tell, by the words of DOC.md."""
    if type(claim) is not tuple or len(claim) != 2 or type(paper) is not tuple or len(paper) != 2:
        return False
    word, q = claim
    if type(word) is not str or word != "mean" or not is_share_by_hand(q):
        return False
    drawn, part = paper
    if not is_drawn_by_hand(rules, drawn) or max(means_by_hand(rules, drawn)) > fraction(q):
        return False
    return is_part_by_hand(rules, part) and Fraction(within_by_hand(rules, part), len(part)) == fraction(q)


class Means(Lists):
    def test_small_examples(self):
        # The ties of SOME: (0, 1) at 2, (1, 2) at 1, (1, 3) at 0.
        self.assert_told(means_of(SOME, ((0, 1), (0, 1), (0, 1))), ((0, 1), (1, 1), (1, 1), (1, 1), (0, 1)))
        self.assert_told(means_of(SOME, ((1, 2), (1, 3), (1, 4))), ((1, 2), (13, 12), (2, 3), (3, 4), (0, 1)))
        self.assert_told(means_of(drawn=((1, 1), (1, 1), (1, 1)), rules=SOME), ((1, 1), (2, 1), (0, 1), (0, 1), (0, 1)))
        self.assert_told(means_of(full(0), ()), ((0, 1),))
        self.assert_told(means_of(full(1), ((2, 7),)), ((2, 7), (5, 7)))
        self.assert_told(means_of(NO_TIE, ()), ((0, 1), (0, 1), (0, 1)))
        self.assert_told(means_of(Rules(6, [(1, 0, 1, 0, 1, 0)]), ()), ((0, 1),))
        self.assert_told(means_of(full(2), ((1, 2),) * 4), ((1, 1),) * 4)

    def test_each_list(self):
        for rules in small_lists() + larger_lists() + [full(7)]:
            for drawn in drawn_samples(rules):
                means = means_by_hand(rules, drawn)
                self.assert_told(means_of(rules, drawn), tuple(pair(mean) for mean in means))
                self.assertEqual(sum(means), len(ties_by_hand(rules)))

    def test_guesses_as_chances(self):
        for rules in small_lists()[::5] + larger_lists():
            guess = best_guess(rules)
            means = means_of(rules, tuple((value, 1) for value in guess))
            self.assertEqual(means, tuple((misses, 1) for misses in misses_of(rules, guess)))

    def test_wrong_guesses(self):
        for rules in (full(0), full(1), NO_TIE, SOME, full(2), full(6)):
            right = best_drawn(rules)
            wrong = [list(right), right + ((0, 1),), right + ((1, 2),), right + ((),), (right,), [right], best_guess(rules) + (0,)]
            if right:
                wrong += [right[:-1], right[1:], (), best_guess(rules), tuple(list(chance) for chance in right)]
                for place in (0, len(right) - 1):
                    wrong += [exchanged_at(right, place, (member,)) for member in NO_CHANCES]
            wrong += [value for value in odd_values() if not is_drawn_by_hand(rules, value)]
            for drawn in wrong:
                self.assert_raises_with(InvalidGuess, "value", drawn, means_of, rules, drawn)
                self.assert_raises_with(InvalidGuess, "value", drawn, means_of, drawn=drawn, rules=rules)

    def test_stays(self):
        for rules in (full(0), SOME, scattered(5, 3)):
            for drawn in (best_drawn(rules), [(0, 1)], ((True, 1),), None):
                self.assert_stays([rules], means_of, rules, drawn)


class Least(Lists):
    def test_small_examples(self):
        self.assert_told(least_mean(full(0)), (0, 1))
        self.assert_told(least_mean(NO_TIE), (0, 1))
        self.assert_told(least_mean(SOME), (3, 4))
        self.assert_told(least_mean(Rules(2, [(0, 0), (0, 1)])), (1, 2))
        self.assert_told(least_mean(rules=larger_lists()[0]), (25, 16))
        stretches = Rules(4, [tuple(int(a <= k < b) for k in range(4)) for a in range(5) for b in range(a, 5)])
        self.assert_told(least_mean(stretches), (16, 11))
        self.assertEqual((len(stretches), dimension(stretches), least_worst(stretches)), (11, 2, 2))

    def test_all_rows(self):
        for size in range(8):
            self.assert_told(least_mean(full(size)), share_of(size, 2))

    def test_the_greatest_over_all_parts(self):
        for rules in small_lists() + [rules for rules in larger_lists() if len(rules) <= 16]:
            self.assert_told(least_mean(rules), pair(densest_by_hand(rules)))

    def test_least_worst_is_it_rounded_up(self):
        for rules in small_lists() + larger_lists() + largest_lists():
            self.assertEqual(least_worst(rules), rounded_up(least_mean(rules)))

    def test_below_the_dimension(self):
        for rules in small_lists() + larger_lists() + largest_lists():
            d = dimension(rules)
            self.assertIs(is_below(least_mean(rules), (d, 1)), d != 0)

    def test_beside(self):
        some = [rules for rules in small_lists() if 0 < rules.size < 4][::9]
        for one in some[::2] + [SOME, full(0), larger_lists()[0].seen_at((0, 1, 2))]:
            for other in some[1::3] + [NO_TIE, full(2)]:
                self.assertEqual(least_mean(one.beside(other)), plus(least_mean(one), least_mean(other)))
        # The fewest misses need not add: of each of these they are 1.
        self.assertEqual([least_worst(full(1)), least_worst(full(1).beside(full(1)))], [1, 1])

    def test_turned(self):
        for rules in small_lists()[::3] + larger_lists():
            for row in ((0,) * rules.size, (1,) * rules.size, tuple(k % 2 for k in range(rules.size))):
                self.assertEqual(least_mean(rules.turned(row)), least_mean(rules))

    def test_best_drawn_keeps_to_it(self):
        for rules in small_lists() + larger_lists() + largest_lists():
            drawn = best_drawn(rules)
            self.assert_told(drawn, drawn)
            self.assertTrue(is_drawn_by_hand(rules, drawn))
            self.assertEqual(pair(max(means_by_hand(rules, drawn))), least_mean(rules))
            self.assertLessEqual(max([figures(chance) for chance in drawn], default=0), 12)
            self.assertEqual(best_drawn(rules=Rules(rules.size, rules.rows[::-1])), drawn)

    def test_no_drawn_guess_keeps_to_less(self):
        # Chances in quarters: some rule's mean is at least least_mean.
        for rules in small_lists():
            if len(ties_by_hand(rules)) <= 3:
                for drawn in product([(0, 1), (1, 4), (1, 2), (3, 4), (1, 1)], repeat=len(ties_by_hand(rules))):
                    self.assertGreaterEqual(max(means_by_hand(rules, drawn)), fraction(least_mean(rules)))

    def test_stays(self):
        for rules in (full(0), NO_TIE, SOME, scattered(6, 5)):
            for ask in (least_mean, best_drawn, mean_paper):
                self.assert_stays([rules], ask, rules)


class Papers(Lists):
    def test_right_and_wrong_papers_by_hand(self):
        drawn = ((3, 4), (1, 4), (1, 4))
        self.assertEqual(means_of(SOME, drawn), ((3, 4), (3, 4), (3, 4), (3, 4), (0, 1)))
        self.assertIs(mean_holds(SOME, ("mean", (3, 4)), (drawn, (0, 1, 2, 3))), True)
        self.assertIs(mean_holds(SOME, ("mean", (3, 4)), (drawn, (0, 1, 2, 3, 4))), False)
        self.assertIs(mean_holds(SOME, ("mean", (3, 5)), (drawn, (0, 1, 2, 3, 4))), False)
        self.assertIs(mean_holds(SOME, ("mean", (2, 3)), (drawn, (0, 1, 2))), False)
        self.assertIs(mean_holds(SOME, ("mean", (3, 4)), (drawn[::-1], (0, 1, 2, 3))), False)
        self.assertIs(mean_holds(SOME, ("mean", (3, 4)), (((3, 4), (1, 4), (1, 5)), (0, 1, 2, 3))), False)
        self.assertIs(mean_holds(SOME, ("mean", (6, 8)), (drawn, (0, 1, 2, 3))), False)
        self.assertIs(mean_holds(NO_TIE, ("mean", (0, 1)), ((), (0,))), True)
        self.assertIs(mean_holds(NO_TIE, ("mean", (0, 1)), ((), (0, 1, 2))), True)
        self.assertIs(mean_holds(NO_TIE, ("mean", (0, 1)), ((), ())), False)
        self.assertIs(mean_holds(NO_TIE, ("mean", (1, 1)), ((), (0,))), False)
        self.assertIs(mean_holds(full(0), ("mean", (0, 1)), ((), (0,))), True)
        self.assertIs(mean_holds(full(0), ("mean", (-1, 1)), ((), (0,))), False)

    def test_the_paper_is_taken_with_the_true_claim_only(self):
        for rules in small_lists() + larger_lists() + largest_lists():
            q = least_mean(rules)
            paper = mean_paper(rules)
            self.assert_told(paper, paper)
            self.assertTrue(holds_by_hand(rules, ("mean", q), paper))
            self.assertIs(mean_holds(rules, ("mean", q), paper), True)
            self.assertLessEqual(max([figures(chance) for chance in paper[0]], default=0), 12)
            for other in (plus(q, (1, 1)), plus(q, (-1, 1)), plus(q, (1, 64)), plus(q, (-1, 64)), (q[0] * 2, q[1] * 2)):
                self.assertIs(mean_holds(rules, ("mean", other), paper), False)
            self.assertIs(mean_holds(paper=mean_paper(rules=rules), claim=("mean", q), rules=rules), True)

    def test_no_paper_of_another_claim(self):
        chances = [(0, 1), (1, 3), (1, 2), (2, 3), (1, 1)]
        for rules in [rules for rules in small_lists() if len(ties_by_hand(rules)) < 4][::37]:
            parts = [(), *[tuple(k for k, c in enumerate(chosen) if c) for chosen in product((0, 1), repeat=len(rules))]]
            for drawn in product(chances, repeat=len(ties_by_hand(rules))):
                for part in parts[::2]:
                    for q in ((0, 1), (1, 3), (1, 2), (2, 3), (3, 4)):
                        holds = mean_holds(rules, ("mean", q), (drawn, part))
                        self.assertIs(holds, holds_by_hand(rules, ("mean", q), (drawn, part)))
                        self.assertLessEqual(holds, q == least_mean(rules))

    def test_spoilt_at_one_place(self):
        for rules in (full(0), NO_TIE, full(1), SOME, full(2), scattered(5, 3)):
            claim, paper = ("mean", least_mean(rules)), mean_paper(rules)
            for other in spoilt(claim):
                # The share 1 stays itself when above and below are exchanged.
                self.assertIs(mean_holds(rules, other, paper), repr(other) == repr(claim), other)
            wrong = 0
            for other in spoilt(paper):
                right = holds_by_hand(rules, claim, other)
                wrong += not right
                self.assertIs(mean_holds(rules, claim, other), right, other)
            self.assertGreater(wrong, 15)

    def test_parts_and_chances_that_are_none(self):
        drawn, part = mean_paper(full(3))
        for other in ((), part[::-1], part + part[-1:], part[:1] + part, part + (8,), (-1,) + part, list(part), part[0],
                      (False,) + part[1:], part[:1] + (True,) + part[2:], None, "01234567", {}, part[:-1] + (None,)):
            self.assertIs(mean_holds(full(3), ("mean", (3, 2)), (drawn, other)), False)
        for other in NO_CHANCES:
            self.assertIs(mean_holds(full(1), ("mean", (1, 2)), ((other,), (0, 1))), False)
            self.assertIs(mean_holds(full(1), ("mean", other), (((1, 2),), (0, 1))), False)

    def test_any_values_at_all(self):
        for rules in (full(0), NO_TIE, full(1), SOME, full(6)):
            claim, paper = ("mean", least_mean(rules)), mean_paper(rules)
            for value in odd_values() + [claim, paper, ("mean",), ("dimension", 0), ("misses", 0), rules, 10 ** 12]:
                for other_claim, other_paper in (
                    (value, paper), (claim, value), (value, value), (("mean", value), paper), ((value, claim[1]), paper),
                    (claim, (value, value)), (claim, (value, paper[1])), (claim, (paper[0], value)), (claim, (paper[0], (value,))),
                    (claim, ((value,), paper[1])), (claim, paper + (value,)), (claim + (value,), paper),
                    (("mean", (value, value)), paper), (("mean", (value, 1)), paper), (("mean", (1, value)), paper),
                ):
                    right = holds_by_hand(rules, other_claim, other_paper)
                    self.assertIs(mean_holds(rules, other_claim, other_paper), right, value)
        self.assertIs(mean_holds(full(0), ("mean", (False, 1)), ((), (0,))), False)
        self.assertIs(mean_holds(full(0), ("mean", (0, True)), ((), (0,))), False)
        self.assertIs(mean_holds(full(0), ("mean", (0, 1)), ((), (False,))), False)
        self.assertIs(mean_holds(full(0), ("mean", [0, 1]), ((), (0,))), False)

    def test_stays(self):
        for rules in (NO_TIE, SOME, full(4)):
            claim, paper = ("mean", least_mean(rules)), mean_paper(rules)
            self.assert_stays([rules], mean_holds, rules, claim, paper)
            self.assert_stays([rules], mean_holds, rules, paper, claim)
            self.assert_stays([rules], mean_holds, rules, list(claim), [paper])
