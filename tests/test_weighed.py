from fractions import Fraction
from itertools import product

from nextguess.drawn import best_drawn, least_mean
from nextguess.errors import InvalidGuess, InvalidSource
from nextguess.lists import Rules
from nextguess.shares import over, plus, times
from nextguess.weighed import best_weighed, chance_holds, chance_paper, chances_of, least_chance
from tests.byhand import (
    are_one_by_hand, densest_by_hand, figures, fraction, is_drawn_by_hand, is_part_by_hand, is_share_by_hand,
    means_by_hand, pair, ties_by_hand, within_by_hand,
)
from tests.cases import Lists
from tests.samples import (
    NO_CHANCES, UNEVEN, exchanged_at, full, larger_lists, near_sources, odd_values, scattered, small_lists, sources_of,
    spoilt,
)

SOME = Rules(3, [(0, 0, 0), (0, 0, 1), (0, 1, 1), (1, 0, 1), (1, 1, 0)])
NO_TIE = Rules(3, [(0, 0, 0), (0, 1, 1), (1, 0, 1)])
SOURCE = ((1, 2), (1, 3), (1, 6))
CHANCES = [(0, 1), (1, 1), (1, 2), (1, 3), (2, 3), (3, 4), (1, 10 ** 11), (5, 11)]


def lists_with_points():
    """Every list of 1 to 3 points."""
    return [rules for rules in small_lists() if rules.size > 0]


def sources_for(rules):
    """Some sources of as many points as the list has, all of them for few points."""
    return sources_of(rules.size) + ([UNEVEN] if rules.size == 6 else [])


def drawn_samples(rules):
    """Some drawn guesses of a list."""
    many = len(ties_by_hand(rules))
    return [tuple(CHANCES[(start + step * k) % len(CHANCES)] for k in range(many)) for start, step in ((0, 1), (2, 0), (3, 5))]


def holds_by_hand(rules, source, claim, paper):
    """What chance_holds is to tell, by the words of DOC.md."""
    if type(claim) is not tuple or len(claim) != 2 or type(paper) is not tuple or len(paper) != 2:
        return False
    word, c = claim
    if type(word) is not str or word != "chance" or not is_share_by_hand(c):
        return False
    drawn, part = paper
    if not is_drawn_by_hand(rules, drawn) or max(means_by_hand(rules, drawn, source)) > fraction(c):
        return False
    return is_part_by_hand(rules, part) and within_by_hand(rules, part, source) == fraction(c) * len(part)


class Chances(Lists):
    def test_small_examples(self):
        # The ties of SOME: (0, 1) at 2, (1, 2) at 1, (1, 3) at 0.
        self.assert_told(chances_of(SOME, SOURCE, ((0, 1),) * 3), ((0, 1), (1, 6), (1, 3), (1, 2), (0, 1)))
        self.assert_told(chances_of(SOME, SOURCE, ((1, 2), (1, 3), (1, 4))), ((1, 12), (23, 72), (2, 9), (3, 8), (0, 1)))
        self.assert_told(chances_of(drawn=(), source=SOURCE, rules=NO_TIE), ((0, 1),) * 3)
        self.assert_told(chances_of(full(1), ((1, 1),), ((2, 7),)), ((2, 7), (5, 7)))
        self.assert_told(chances_of(SOME, ((0, 1), (1, 1), (0, 1)), ((1, 1),) * 3), ((0, 1), (1, 1), (0, 1), (0, 1), (0, 1)))

    def test_each_list(self):
        for rules in lists_with_points() + larger_lists():
            for source in sources_for(rules)[::2]:
                for drawn in drawn_samples(rules):
                    means = tuple(pair(mean) for mean in means_by_hand(rules, drawn, source))
                    self.assert_told(chances_of(rules, source, drawn), means)

    def test_errors_and_their_order(self):
        for rules in (full(0), full(1), NO_TIE, SOME, full(3)):
            right = best_drawn(rules)
            for wrong in near_sources(rules.size) + odd_values():
                if rules.size == 0 or not are_one_by_hand(wrong, rules.size):
                    for drawn in (right, None, right + ((0, 1),)):
                        self.assert_raises_with(InvalidSource, "value", wrong, chances_of, rules, wrong, drawn)
                        self.assert_raises_with(InvalidSource, "value", wrong, chances_of, drawn=drawn, source=wrong, rules=rules)
            if rules.size > 0:
                source = sources_of(rules.size)[1 if rules.size > 1 else 0]
                wrongs = [list(right), right + ((0, 1),), right + ((),), (right,), [right], None]
                if right:
                    wrongs += [right[:-1], tuple(list(chance) for chance in right), (0,) * len(right)]
                    wrongs += [exchanged_at(right, 0, (member,)) for member in NO_CHANCES]
                for wrong in wrongs + [value for value in odd_values() if not is_drawn_by_hand(rules, value)]:
                    self.assert_raises_with(InvalidGuess, "value", wrong, chances_of, rules, source, wrong)
                    self.assert_raises_with(InvalidGuess, "value", wrong, chances_of, drawn=wrong, source=source, rules=rules)

    def test_stays(self):
        for source in (SOURCE, list(SOURCE), None):
            for drawn in (best_drawn(SOME), None):
                self.assert_stays([SOME], chances_of, SOME, source, drawn)


class Least(Lists):
    def test_small_examples(self):
        self.assert_told(least_chance(NO_TIE, SOURCE), (0, 1))
        self.assert_told(least_chance(full(3), SOURCE), (1, 2))
        self.assert_told(least_chance(source=((1, 1),), rules=full(1)), (1, 2))
        # Rule 1 of SOME has its ties with 0 at 2, with 2 at 1 and with 3 at 0: 1 / 3 and 1 / 2 on three rules.
        self.assert_told(least_chance(SOME, SOURCE), (5, 18))
        self.assert_told(least_chance(SOME, ((0, 1), (0, 1), (1, 1))), (1, 2))
        self.assert_told(least_chance(SOME, ((1, 3), (1, 3), (1, 3))), (1, 4))
        self.assert_told(least_chance(Rules(2, [(0, 0), (0, 1)]), ((1, 1), (0, 1))), (0, 1))

    def test_the_greatest_over_all_parts(self):
        for rules in lists_with_points() + [rules for rules in larger_lists() if len(rules) <= 13]:
            for source in sources_for(rules)[::1 if rules.size < 3 else 3]:
                self.assert_told(least_chance(rules, source), pair(densest_by_hand(rules, source)))

    def test_at_most_one_half(self):
        for rules in lists_with_points()[::3] + larger_lists():
            for source in sources_for(rules):
                self.assertLessEqual(fraction(least_chance(rules, source)), Fraction(1, 2))

    def test_like_chances(self):
        for rules in lists_with_points() + larger_lists():
            source = ((1, rules.size),) * rules.size
            self.assertEqual(least_chance(rules, source), over(least_mean(rules), (rules.size, 1)))

    def test_best_weighed_keeps_to_it(self):
        for rules in lists_with_points() + larger_lists():
            for source in sources_for(rules)[::1 if rules.size > 3 else 3]:
                drawn = best_weighed(rules, source)
                self.assert_told(drawn, drawn)
                self.assertTrue(is_drawn_by_hand(rules, drawn))
                self.assertEqual(pair(max(means_by_hand(rules, drawn, source))), least_chance(rules, source))
                self.assertLessEqual(max([figures(chance) for chance in drawn], default=0), 40)
                self.assertEqual(best_weighed(source=source, rules=Rules(rules.size, rules.rows[::-1])), drawn)

    def test_no_drawn_guess_keeps_to_less(self):
        for rules in lists_with_points():
            if len(ties_by_hand(rules)) <= 2:
                for source in sources_of(rules.size)[1:3]:
                    for drawn in product([(0, 1), (1, 4), (1, 2), (3, 4), (1, 1)], repeat=len(ties_by_hand(rules))):
                        greatest = max(means_by_hand(rules, drawn, source))
                        self.assertGreaterEqual(greatest, fraction(least_chance(rules, source)))

    def test_wrong_sources(self):
        for rules in (full(0), full(1), SOME, full(6)):
            for wrong in near_sources(rules.size) + odd_values():
                if rules.size == 0 or not are_one_by_hand(wrong, rules.size):
                    for ask in (least_chance, best_weighed, chance_paper):
                        self.assert_raises_with(InvalidSource, "value", wrong, ask, rules, wrong)
                        self.assert_raises_with(InvalidSource, "value", wrong, ask, source=wrong, rules=rules)

    def test_stays(self):
        for rules in (NO_TIE, SOME, full(3)):
            for source in (SOURCE, list(SOURCE), None):
                for ask in (least_chance, best_weighed, chance_paper):
                    self.assert_stays([rules], ask, rules, source)


class Papers(Lists):
    def test_right_and_wrong_papers_by_hand(self):
        # Three of the four rules of SOME that have ties come to 5 / 18.
        drawn = ((1, 1), (1, 6), (4, 9))
        means = chances_of(SOME, SOURCE, drawn)
        self.assertEqual(means, ((1, 6), (5, 18), (5, 18), (5, 18), (0, 1)))
        self.assertIs(chance_holds(SOME, SOURCE, ("chance", (5, 18)), (drawn, (1, 2, 3))), True)
        self.assertIs(chance_holds(SOME, SOURCE, ("chance", (5, 18)), (drawn, (0, 1, 2, 3))), False)
        self.assertIs(chance_holds(SOME, SOURCE, ("chance", (1, 4)), (drawn, (0, 1, 2, 3))), False)
        self.assertIs(chance_holds(SOME, SOURCE, ("chance", (5, 18)), (((1, 1), (1, 6), (1, 2)), (1, 2, 3))), False)
        self.assertIs(chance_holds(SOME, SOURCE, ("chance", (10, 36)), (drawn, (1, 2, 3))), False)
        self.assertIs(chance_holds(NO_TIE, SOURCE, ("chance", (0, 1)), ((), (0,))), True)
        self.assertIs(chance_holds(NO_TIE, SOURCE, ("chance", (0, 1)), ((), ())), False)
        self.assertIs(chance_holds(NO_TIE, SOURCE, ("chance", (1, 1)), ((), (0,))), False)
        # Where the source never comes every chance is as good.
        at_last = ((0, 1), (0, 1), (1, 1))
        for chance in ((0, 1), (1, 7), (1, 1)):
            self.assertIs(chance_holds(SOME, at_last, ("chance", (1, 2)), (((1, 2), chance, chance), (0, 1))), True)

    def test_the_paper_is_taken_with_the_true_claim_only(self):
        for rules in lists_with_points()[::2] + larger_lists():
            for source in sources_for(rules)[::2]:
                c = least_chance(rules, source)
                paper = chance_paper(rules, source)
                self.assert_told(paper, paper)
                self.assertTrue(holds_by_hand(rules, source, ("chance", c), paper))
                self.assertIs(chance_holds(rules, source, ("chance", c), paper), True)
                self.assertLessEqual(max([figures(chance) for chance in paper[0]], default=0), 40)
                for other in (plus(c, (1, 1)), plus(c, (-1, 64)), plus(c, (1, 640)), (c[0] * 2, c[1] * 2), times(c, (2, 1))):
                    if other != c:
                        self.assertIs(chance_holds(rules, source, ("chance", other), paper), False)
                again = chance_paper(source=source, rules=rules)
                self.assertIs(chance_holds(paper=again, claim=("chance", c), source=source, rules=rules), True)

    def test_no_paper_of_another_claim(self):
        chances = [(0, 1), (1, 3), (1, 2), (1, 1)]
        for rules in [rules for rules in lists_with_points() if len(ties_by_hand(rules)) < 4][::41]:
            parts = [(), *[tuple(k for k, c in enumerate(chosen) if c) for chosen in product((0, 1), repeat=len(rules))]]
            for source in sources_of(rules.size)[:2]:
                for drawn in product(chances, repeat=len(ties_by_hand(rules))):
                    for part in parts[::3]:
                        for c in ((0, 1), (1, 3), (1, 6), (1, 4), least_chance(rules, source)):
                            holds = chance_holds(rules, source, ("chance", c), (drawn, part))
                            self.assertIs(holds, holds_by_hand(rules, source, ("chance", c), (drawn, part)))
                            self.assertLessEqual(holds, c == least_chance(rules, source))

    def test_wrong_sources_come_first(self):
        claim, paper = ("chance", (5, 18)), chance_paper(SOME, SOURCE)
        for wrong in near_sources(3) + odd_values():
            if not are_one_by_hand(wrong, 3):
                for other_claim, other_paper in ((claim, paper), (None, paper), (claim, 0), ([], [])):
                    self.assert_raises_with(InvalidSource, "value", wrong, chance_holds, SOME, wrong, other_claim, other_paper)
        self.assert_raises_with(InvalidSource, "value", (), chance_holds, full(0), (), ("chance", (0, 1)), ((), (0,)))

    def test_spoilt_at_one_place(self):
        for rules, source in ((NO_TIE, SOURCE), (full(1), ((1, 1),)), (SOME, SOURCE), (full(2), ((1, 3), (2, 3)))):
            claim, paper = ("chance", least_chance(rules, source)), chance_paper(rules, source)
            for other in spoilt(claim):
                self.assertIs(chance_holds(rules, source, other, paper), repr(other) == repr(claim), other)
            wrong = 0
            for other in spoilt(paper):
                right = holds_by_hand(rules, source, claim, other)
                wrong += not right
                self.assertIs(chance_holds(rules, source, claim, other), right, other)
            self.assertGreater(wrong, 15)

    def test_any_values_at_all(self):
        for rules in (NO_TIE, full(1), SOME, full(6)):
            source = sources_of(rules.size)[-1]
            claim, paper = ("chance", least_chance(rules, source)), chance_paper(rules, source)
            for value in odd_values() + NO_CHANCES + [claim, paper, ("chance",), ("mean", (0, 1)), rules]:
                for other_claim, other_paper in (
                    (value, paper), (claim, value), (value, value), (("chance", value), paper), ((value, claim[1]), paper),
                    (claim, (value, value)), (claim, (value, paper[1])), (claim, (paper[0], value)), (claim, (paper[0], (value,))),
                    (claim, ((value,), paper[1])), (claim, paper + (value,)), (claim + (value,), paper),
                    (("chance", (value, 1)), paper), (("chance", (1, value)), paper),
                ):
                    right = holds_by_hand(rules, source, other_claim, other_paper)
                    self.assertIs(chance_holds(rules, source, other_claim, other_paper), right, value)
        self.assertIs(chance_holds(full(1), ((1, 1),), ("chance", (1, 2)), (((1, 2),), (False, True))), False)
        self.assertIs(chance_holds(full(1), ((1, 1),), ("chance", (True, 2)), (((1, 2),), (0, 1))), False)
        self.assertIs(chance_holds(full(1), ((1, 1),), ("chance", (1, 2)), (((True, 2),), (0, 1))), False)

    def test_stays(self):
        for rules in (NO_TIE, SOME, scattered(3, 2)):
            claim, paper = ("chance", least_chance(rules, SOURCE)), chance_paper(rules, SOURCE)
            for source in (SOURCE, None):
                self.assert_stays([rules], chance_holds, rules, source, claim, paper)
                self.assert_stays([rules], chance_holds, rules, source, paper, claim)
                self.assert_stays([rules], chance_holds, rules, source, list(claim), [paper])
