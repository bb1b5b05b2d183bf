from fractions import Fraction
from itertools import product

from nextguess.drawn import best_drawn, least_mean, mean_paper, means_of
from nextguess.errors import InvalidGuess, InvalidSource
from nextguess.lists import Rules
from nextguess.priors import expected_misses, guess_by_prior, hardest_prior, is_prior, least_expected
from tests.byhand import (
    are_one_by_hand, densest_by_hand, figures, fraction, is_drawn_by_hand, is_guess_by_hand, means_by_hand, pair,
    ties_by_hand,
)
from tests.cases import Lists
from tests.samples import (
    NO_CHANCES, exchanged_at, full, larger_lists, near_sources, odd_values, scattered, small_lists, sources_of,
)

SOME = Rules(3, [(0, 0, 0), (0, 0, 1), (0, 1, 1), (1, 0, 1), (1, 1, 0)])
NO_TIE = Rules(3, [(0, 0, 0), (0, 1, 1), (1, 0, 1)])
PRIOR = ((1, 2), (1, 4), (1, 8), (1, 16), (1, 16))


def priors_of(rules):
    """Some priors of a list: those sources that many points would have."""
    return sources_of(len(rules))[:2] + sources_of(len(rules))[3:]


def drawn_samples(rules):
    """Some drawn guesses of a list."""
    many = len(ties_by_hand(rules))
    return [((0, 1),) * many, ((1, 2),) * many, tuple((k % 5, 4) if k % 2 else (1, k + 1) for k in range(many)), best_drawn(rules)]


def expected_by_hand(rules, prior, drawn):
    means = means_by_hand(rules, drawn)
    return sum([fraction(chance) * mean for chance, mean in zip(prior, means)], Fraction(0))


def least_by_hand(rules, prior):
    """The sum, over all ties, of the lesser of the prior's chances of both rules."""
    return sum([min(fraction(prior[i]), fraction(prior[j])) for i, j, _ in ties_by_hand(rules)], Fraction(0))


class Priors(Lists):
    def test_priors(self):
        self.assertIs(is_prior(SOME, PRIOR), True)
        self.assertIs(is_prior(value=PRIOR, rules=SOME), True)
        self.assertIs(is_prior(SOME, PRIOR[:-1]), False)
        self.assertIs(is_prior(SOME, ((1, 1), (0, 1), (0, 1), (0, 1), (0, 1))), True)
        self.assertIs(is_prior(SOME, ((1, 5),) * 5), True)
        self.assertIs(is_prior(SOME, ((1, 5),) * 4), False)
        self.assertIs(is_prior(SOME, ((1, 3),) * 3), False)
        self.assertIs(is_prior(full(0), ((1, 1),)), True)
        self.assertIs(is_prior(full(0), ()), False)
        for rules in larger_lists() + small_lists()[::9]:
            for prior in priors_of(rules):
                self.assertIs(is_prior(rules, prior), True)

    def test_any_value_at_all(self):
        for rules in (full(0), full(1), NO_TIE, SOME, full(6)):
            for value in odd_values() + near_sources(len(rules) if len(rules) < 6 else 3):
                self.assertIs(is_prior(rules, value), are_one_by_hand(value, len(rules)), value)


class Expected(Lists):
    def test_small_examples(self):
        # The ties of SOME: (0, 1) at 2, (1, 2) at 1, (1, 3) at 0.
        self.assert_told(expected_misses(SOME, PRIOR, ((0, 1),) * 3), (7, 16))
        self.assert_told(expected_misses(SOME, PRIOR, ((1, 1),) * 3), (1, 1))
        self.assert_told(expected_misses(SOME, PRIOR, ((0, 1), (1, 2), (1, 1))), (11, 16))
        self.assert_told(expected_misses(drawn=(), prior=((1, 1), (0, 1), (0, 1)), rules=NO_TIE), (0, 1))
        self.assert_told(expected_misses(full(0), ((1, 1),), ()), (0, 1))

    def test_each_list(self):
        for rules in small_lists() + larger_lists():
            for prior in priors_of(rules)[::2]:
                for drawn in drawn_samples(rules):
                    if is_drawn_by_hand(rules, drawn):
                        self.assert_told(expected_misses(rules, prior, drawn), pair(expected_by_hand(rules, prior, drawn)))

    def test_errors_and_their_order(self):
        for rules in (full(0), full(1), NO_TIE, SOME):
            right = best_drawn(rules)
            for wrong in near_sources(len(rules)) + odd_values():
                if not are_one_by_hand(wrong, len(rules)):
                    for drawn in (right, None, right + ((0, 1),)):
                        self.assert_raises_with(InvalidSource, "value", wrong, expected_misses, rules, wrong, drawn)
                    self.assert_raises_with(InvalidSource, "value", wrong, expected_misses, drawn=right, prior=wrong, rules=rules)
                    for ask in (least_expected, guess_by_prior):
                        self.assert_raises_with(InvalidSource, "value", wrong, ask, rules, wrong)
                        self.assert_raises_with(InvalidSource, "value", wrong, ask, prior=wrong, rules=rules)
            prior = priors_of(rules)[-1]
            wrongs = [list(right), right + ((0, 1),), right + ((),), (right,), [right], None]
            if right:
                wrongs += [right[:-1], tuple(list(chance) for chance in right), (0,) * len(right)]
                wrongs += [exchanged_at(right, 0, (member,)) for member in NO_CHANCES]
            for wrong in wrongs + [value for value in odd_values() if not is_drawn_by_hand(rules, value)]:
                self.assert_raises_with(InvalidGuess, "value", wrong, expected_misses, rules, prior, wrong)
                self.assert_raises_with(InvalidGuess, "value", wrong, expected_misses, drawn=wrong, prior=prior, rules=rules)

    def test_stays(self):
        for prior in (PRIOR, list(PRIOR), None):
            for drawn in (best_drawn(SOME), None):
                self.assert_stays([SOME], expected_misses, SOME, prior, drawn)
            self.assert_stays([SOME], least_expected, SOME, prior)
            self.assert_stays([SOME], guess_by_prior, SOME, prior)
        self.assert_stays([SOME], hardest_prior, SOME)


class Least(Lists):
    def test_small_examples(self):
        self.assert_told(least_expected(SOME, PRIOR), (7, 16))
        self.assert_told(guess_by_prior(SOME, PRIOR), (0, 0, 0))
        # At the first tie both rules are as likely.
        self.assertIn(guess_by_prior(SOME, PRIOR[::-1]), [(0, 1, 1), (1, 1, 1)])
        self.assert_told(least_expected(prior=PRIOR[::-1], rules=SOME), (3, 16))
        self.assert_told(guess_by_prior(prior=((1, 3), (2, 3)), rules=full(1)), (1,))
        self.assert_told(least_expected(full(1), ((1, 3), (2, 3))), (1, 3))
        self.assert_told(least_expected(NO_TIE, ((1, 1), (0, 1), (0, 1))), (0, 1))
        self.assert_told(guess_by_prior(full(0), ((1, 1),)), ())

    def test_the_lesser_chances_over_all_ties(self):
        for rules in small_lists() + larger_lists():
            for prior in priors_of(rules):
                self.assert_told(least_expected(rules, prior), pair(least_by_hand(rules, prior)))
                guess = guess_by_prior(rules, prior)
                self.assertTrue(is_guess_by_hand(rules, guess))
                drawn = tuple((value, 1) for value in guess)
                self.assertEqual(expected_misses(rules, prior, drawn), least_expected(rules, prior))
                self.assertEqual(guess_by_prior(prior=prior, rules=Rules(rules.size, rules.rows[::-1])), guess)

    def test_no_drawn_guess_comes_to_less(self):
        for rules in [rules for rules in small_lists() if len(ties_by_hand(rules)) <= 3][::2]:
            for prior in priors_of(rules)[:3]:
                found = [
                    expected_by_hand(rules, prior, drawn)
                    for drawn in product([(0, 1), (1, 3), (1, 1)], repeat=len(ties_by_hand(rules)))
                ]
                self.assertEqual(pair(min(found)), least_expected(rules, prior))


class Hardest(Lists):
    def test_small_examples(self):
        self.assert_told(hardest_prior(full(0)), ((1, 1),))
        self.assert_told(hardest_prior(full(1)), ((1, 2), (1, 2)))
        self.assert_told(hardest_prior(SOME), ((1, 4), (1, 4), (1, 4), (1, 4), (0, 1)))
        self.assert_told(hardest_prior(rules=full(2)), ((1, 4),) * 4)

    def test_it_comes_to_the_least_mean(self):
        for rules in small_lists() + larger_lists():
            prior = hardest_prior(rules)
            self.assert_told(prior, prior)
            self.assertIs(is_prior(rules, prior), True)
            self.assertLessEqual(max(figures(chance) for chance in prior), 12)
            self.assertEqual(least_expected(rules, prior), least_mean(rules))
            self.assertEqual(hardest_prior(Rules(rules.size, rules.rows[::-1])), prior)

    def test_no_prior_comes_to_more(self):
        for rules in small_lists() + larger_lists():
            for prior in priors_of(rules):
                self.assertLessEqual(fraction(least_expected(rules, prior)), fraction(least_mean(rules)))
        for rules in small_lists()[::7]:
            self.assertEqual(pair(densest_by_hand(rules)), least_expected(rules, hardest_prior(rules)))

    def test_like_chances_for_a_part_come_to_it(self):
        for rules in small_lists() + larger_lists() + [scattered(6, 7)]:
            part = mean_paper(rules)[1]
            prior = tuple((1, len(part)) if number in part else (0, 1) for number in range(len(rules)))
            self.assertEqual(least_expected(rules, prior), least_mean(rules))
            # Against it no drawn guess does better than the best one.
            self.assertEqual(expected_misses(rules, prior, best_drawn(rules)), least_mean(rules))
            self.assertEqual(max(map(fraction, means_of(rules, best_drawn(rules)))), fraction(least_mean(rules)))
