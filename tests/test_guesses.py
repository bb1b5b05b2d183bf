from itertools import product

from nextguess.errors import InvalidGuess
from nextguess.freedom import dimension
from nextguess.guesses import best_guess, least_worst, misses_holds, misses_of, misses_paper
from nextguess.lists import Rules
from nextguess.shares import rounded_up
from tests.byhand import (
    densest_by_hand, is_guess_by_hand, is_part_by_hand, pair, ties_by_hand, within_by_hand,
)
from tests.cases import Lists
from tests.samples import (
    exchanged_at, full, larger_lists, largest_lists, odd_values, rows_by_hand, scattered, small_lists, spoilt,
)

SOME = Rules(3, [(0, 0, 0), (0, 0, 1), (0, 1, 1), (1, 0, 1), (1, 1, 0)])
NO_TIE = Rules(3, [(0, 0, 0), (0, 1, 1), (1, 0, 1)])


def misses_by_hand(rules, guess):
    """At how many ties each rule misses."""
    misses = [0] * len(rules)
    for (i, j, point), value in zip(ties_by_hand(rules), guess):
        for number in (i, j):
            misses[number] += rules.rows[number][point] != value
    return tuple(misses)


def holds_by_hand(rules, claim, paper):
    """What misses_holds is to tell, by the words of DOC.md."""
    if type(claim) is not tuple or len(claim) != 2 or type(paper) is not tuple or len(paper) != 2:
        return False
    word, k = claim
    if type(word) is not str or word != "misses" or type(k) is not int or k < 0:
        return False
    guess, part = paper
    if not is_guess_by_hand(rules, guess) or max(misses_by_hand(rules, guess)) > k:
        return False
    if k == 0:
        return type(part) is tuple and part == ()
    return is_part_by_hand(rules, part) and within_by_hand(rules, part) > (k - 1) * len(part)


class Misses(Lists):
    def test_small_examples(self):
        # The ties of SOME: (0, 1) at 2, (1, 2) at 1, (1, 3) at 0.
        self.assert_told(misses_of(SOME, (0, 0, 0)), (0, 1, 1, 1, 0))
        self.assert_told(misses_of(SOME, (1, 0, 0)), (1, 0, 1, 1, 0))
        self.assert_told(misses_of(SOME, (0, 1, 1)), (0, 3, 0, 0, 0))
        self.assert_told(misses_of(guess=(1, 1, 0), rules=SOME), (1, 1, 0, 1, 0))
        self.assert_told(misses_of(full(0), ()), (0,))
        self.assert_told(misses_of(full(1), (0,)), (0, 1))
        self.assert_told(misses_of(full(1), (1,)), (1, 0))
        self.assert_told(misses_of(NO_TIE, ()), (0, 0, 0))
        self.assert_told(misses_of(Rules(6, [(1, 0, 1, 0, 1, 0)]), ()), (0,))
        self.assert_told(misses_of(full(2), (0, 0, 0, 0)), (0, 1, 1, 2))
        self.assert_told(misses_of(full(2), (1, 0, 1, 0)), (1, 1, 1, 1))

    def test_every_guess_of_small_lists(self):
        for rules in small_lists():
            for guess in rows_by_hand(len(ties_by_hand(rules)))[::37 if len(rules) > 6 else 1]:
                self.assert_told(misses_of(rules, guess), misses_by_hand(rules, guess))

    def test_some_guesses_of_larger_lists(self):
        for rules in larger_lists() + [full(7)]:
            many = len(ties_by_hand(rules))
            for guess in ((0,) * many, (1,) * many, tuple(k % 2 for k in range(many)), tuple(k % 3 // 2 for k in range(many))):
                self.assert_told(misses_of(rules, guess), misses_by_hand(rules, guess))
                self.assertEqual(sum(misses_of(rules, guess)), many)

    def test_wrong_guesses(self):
        for rules in (full(0), full(1), NO_TIE, SOME, full(2), full(6)):
            right = best_guess(rules)
            wrong = [list(right), right + (0,), right + (1,), right + ((),), (right,), [right], (0,) * len(rules) + right]
            if right:
                wrong += [right[:-1], right[1:], (), (0,) * len(right[1:]), (None,) * len(right)]
                for place in (0, len(right) - 1):
                    for member in (True, False, 2, -1, None, "0", (0,), [1], (0, 1), 10 ** 12, rules, "", ()):
                        wrong.append(exchanged_at(right, place, (member,)))
            wrong += [value for value in odd_values() if not is_guess_by_hand(rules, value)]
            for guess in wrong:
                self.assert_raises_with(InvalidGuess, "value", guess, misses_of, rules, guess)
                self.assert_raises_with(InvalidGuess, "value", guess, misses_of, guess=guess, rules=rules)

    def test_stays(self):
        for rules in (full(0), SOME, scattered(5, 3)):
            for guess in (best_guess(rules), [0], (True,), None):
                self.assert_stays([rules], misses_of, rules, guess)


class Least(Lists):
    def test_small_examples(self):
        self.assert_told(least_worst(full(0)), 0)
        self.assert_told(least_worst(NO_TIE), 0)
        self.assert_told(least_worst(SOME), 1)
        self.assert_told(least_worst(rules=full(2)), 1)
        self.assert_told(least_worst(full(3)), 2)
        self.assert_told(least_worst(Rules(2, [(0, 0), (0, 1)])), 1)
        stretches = larger_lists()[0]
        self.assert_told(least_worst(stretches), 2)

    def test_all_rows(self):
        for size in range(8):
            self.assert_told(least_worst(full(size)), (size + 1) // 2)

    def test_the_fewest_over_all_guesses(self):
        for rules in small_lists():
            if len(ties_by_hand(rules)) <= 8:
                guesses = rows_by_hand(len(ties_by_hand(rules)))
                self.assertEqual(least_worst(rules), min(max(misses_by_hand(rules, guess)) for guess in guesses))

    def test_the_greatest_over_all_parts(self):
        for rules in small_lists() + [rules for rules in larger_lists() if len(rules) <= 16]:
            self.assert_told(least_worst(rules), rounded_up(pair(densest_by_hand(rules))))

    def test_at_most_the_dimension(self):
        for rules in small_lists() + larger_lists() + largest_lists():
            self.assertLessEqual(least_worst(rules), dimension(rules))

    def test_turned(self):
        for rules in small_lists()[::3] + larger_lists():
            for row in ((0,) * rules.size, (1,) * rules.size, tuple(k % 2 for k in range(rules.size))):
                self.assertEqual(least_worst(rules.turned(row)), least_worst(rules))

    def test_best_guess_keeps_to_it(self):
        for rules in small_lists() + larger_lists() + largest_lists():
            guess = best_guess(rules)
            self.assertTrue(is_guess_by_hand(rules, guess))
            self.assertEqual(max(misses_by_hand(rules, guess)), least_worst(rules))
            self.assertEqual(best_guess(rules=Rules(rules.size, rules.rows[::-1])), guess)

    def test_stays(self):
        for rules in (full(0), NO_TIE, SOME, scattered(6, 5)):
            for ask in (least_worst, best_guess, misses_paper):
                self.assert_stays([rules], ask, rules)


class Papers(Lists):
    def test_right_and_wrong_papers_by_hand(self):
        claim = ("misses", 1)
        self.assertIs(misses_holds(SOME, claim, ((0, 0, 0), (0, 1))), True)
        self.assertIs(misses_holds(SOME, claim, ((0, 0, 0), (0, 1, 2, 3, 4))), True)
        self.assertIs(misses_holds(SOME, claim, ((0, 1, 1), (0, 1))), False)
        self.assertIs(misses_holds(SOME, claim, ((0, 0, 0), (0, 2))), False)
        self.assertIs(misses_holds(SOME, claim, ((0, 0, 0), ())), False)
        self.assertIs(misses_holds(SOME, ("misses", 2), ((0, 0, 0), (0, 1, 2, 3))), False)
        self.assertIs(misses_holds(SOME, ("misses", 0), ((0, 0, 0), ())), False)
        self.assertIs(misses_holds(NO_TIE, ("misses", 0), ((), ())), True)
        self.assertIs(misses_holds(NO_TIE, ("misses", 0), ((), (0,))), False)
        self.assertIs(misses_holds(NO_TIE, ("misses", 1), ((), (0,))), False)
        self.assertIs(misses_holds(full(0), ("misses", 0), ((), ())), True)
        # Of all rows of two points four ties on four rules are no more than once as many.
        self.assertIs(misses_holds(full(2), ("misses", 2), ((1, 0, 1, 0), (0, 1, 2, 3))), False)
        self.assertIs(misses_holds(full(2), claim, ((1, 0, 1, 0), (0, 1, 2, 3))), True)

    def test_the_paper_is_taken_with_the_true_claim_only(self):
        for rules in small_lists() + larger_lists() + largest_lists():
            k = least_worst(rules)
            paper = misses_paper(rules)
            self.assert_told(paper, paper)
            self.assertTrue(holds_by_hand(rules, ("misses", k), paper))
            self.assertEqual(paper[1] == (), k == 0)
            for other in range(k + 3):
                self.assertIs(misses_holds(rules, ("misses", other), paper), other == k)
            self.assertIs(misses_holds(paper=misses_paper(rules=rules), claim=("misses", k), rules=rules), True)

    def test_no_paper_of_another_claim(self):
        # Every claim, and every guess and part, of small lists.
        for rules in [rules for rules in small_lists() if len(ties_by_hand(rules)) < 5][::7]:
            parts = [(), *[tuple(k for k, c in enumerate(chosen) if c) for chosen in product((0, 1), repeat=len(rules))]]
            for k in range(4):
                for guess in rows_by_hand(len(ties_by_hand(rules))):
                    for part in parts:
                        holds = misses_holds(rules, ("misses", k), (guess, part))
                        self.assertIs(holds, holds_by_hand(rules, ("misses", k), (guess, part)))
                        self.assertLessEqual(holds, k == least_worst(rules))

    def test_spoilt_at_one_place(self):
        for rules in (full(0), NO_TIE, full(1), SOME, full(2), scattered(5, 3)):
            claim, paper = ("misses", least_worst(rules)), misses_paper(rules)
            for other in spoilt(claim):
                self.assertIs(misses_holds(rules, other, paper), False, other)
            wrong = 0
            for other in spoilt(paper):
                right = holds_by_hand(rules, claim, other)
                wrong += not right
                self.assertIs(misses_holds(rules, claim, other), right, other)
            self.assertGreater(wrong, 15)

    def test_parts_that_are_none(self):
        guess, part = misses_paper(full(3))
        for other in ((), part[::-1], part + part[-1:], part[:1] + part, part + (8,), (-1,) + part, list(part), part[0],
                      (False,) + part[1:], part[:1] + (True,) + part[2:], None, "01234567", {}, part[:-1] + (None,)):
            self.assertIs(misses_holds(full(3), ("misses", 2), (guess, other)), False)

    def test_any_values_at_all(self):
        for rules in (full(0), NO_TIE, full(1), SOME, full(6)):
            claim, paper = ("misses", least_worst(rules)), misses_paper(rules)
            for value in odd_values() + [claim, paper, ("misses",), ("dimension", 0), ("mean", (0, 1)), rules, 10 ** 12]:
                for other_claim, other_paper in (
                    (value, paper), (claim, value), (value, value), (("misses", value), paper), ((value, claim[1]), paper),
                    (claim, (value, value)), (claim, (value, paper[1])), (claim, (paper[0], value)), (claim, (paper[0], (value,))),
                    (claim, ((value,), paper[1])), (claim, paper + (value,)), (claim + (value,), paper),
                ):
                    right = holds_by_hand(rules, other_claim, other_paper)
                    self.assertIs(misses_holds(rules, other_claim, other_paper), right, value)
        self.assertIs(misses_holds(full(1), ("misses", True), ((0,), (0, 1))), False)
        self.assertIs(misses_holds(full(0), ("misses", False), ((), ())), False)
        self.assertIs(misses_holds(full(1), ("misses", 1), ((False,), (0, 1))), False)
        self.assertIs(misses_holds(full(1), ("misses", 1), ((0,), (False, True))), False)
        self.assertIs(misses_holds(full(1), ["misses", 1], ((0,), (0, 1))), False)

    def test_stays(self):
        for rules in (NO_TIE, SOME, full(4)):
            claim, paper = ("misses", least_worst(rules)), misses_paper(rules)
            self.assert_stays([rules], misses_holds, rules, claim, paper)
            self.assert_stays([rules], misses_holds, rules, paper, claim)
            self.assert_stays([rules], misses_holds, rules, list(claim), [paper])
