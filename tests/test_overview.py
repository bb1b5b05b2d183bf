"""What the overview of DOC.md says in bold, over the whole program."""

import random
from fractions import Fraction
from itertools import permutations, product

from nextguess.desk import Desk
from nextguess.drawn import best_drawn, least_mean, mean_holds, mean_paper
from nextguess.freedom import dimension, free_lots
from nextguess.guessers import Guesser
from nextguess.guesses import least_worst
from nextguess.histories import history_holds, relived, write_history
from nextguess.kinds import most_free, rules_cut
from nextguess.lists import Rules
from nextguess.lotwise import mean_at, misses_at, most_mean
from nextguess.questions import answer_of, claim_holds, paper_of
from nextguess.sources import last_miss_chance, miss_bound, miss_chance, unavoidable
from tests.byhand import densest_by_hand, fraction, kinds_of, means_by_hand, read_by_hand, ties_by_hand
from tests.cases import Lists
from tests.cuts import KINDS, points_of
from tests.desks import desk_lists, led_desk
from tests.samples import full, larger_lists, lots_by_hand, scattered, seen_by_hand, small_lists, sources_of

STRETCHES = Rules(4, [tuple(int(a <= k < b) for k in range(4)) for a in range(5) for b in range(a, 5)])


def some_lists():
    """Lists of at least one point, most of them small."""
    return [rules for rules in small_lists() if rules.size > 0][::7] + larger_lists()[::4] + [STRETCHES]


class Overview(Lists):
    def test_the_example(self):
        self.assert_told(rules_cut("stretches", ((1,), (2,), (3,), (4,))).rows, STRETCHES.rows)
        self.assertEqual(
            (len(STRETCHES), dimension(STRETCHES), least_worst(STRETCHES), least_mean(STRETCHES)), (11, 2, 2, (16, 11)),
        )

    def test_the_last_point_of_a_shuffled_lot(self):
        for rules in some_lists():
            drawn = Guesser(rules, "drawn")
            best = Guesser(rules, "best")
            for lot in lots_by_hand(rules.size)[1::1 if rules.size < 4 else 6]:
                seen = rules.seen_at(lot)
                q = fraction(mean_at(rules, lot))
                if len(seen) <= 8:
                    self.assertEqual(q, densest_by_hand(seen))
                chances = [fraction(last_miss_chance(drawn, row, lot)) for row in rules.rows]
                self.assertEqual(max(chances), q / len(lot))
                misses = [sum(map(fraction, best.misses(lot, row))) for row in rules.rows]
                self.assertEqual(max(misses), misses_at(rules, lot))
                self.assertEqual(misses_at(rules, lot), -(-q // 1))

    def test_whoever_guesses_is_wrong_as_often(self):
        for rules in [rules for rules in small_lists() if rules.size > 0][::5]:
            for kind in kinds_of(rules):
                guesser = Guesser(rules, kind)
                for lot in lots_by_hand(rules.size)[1:]:
                    chances = [fraction(last_miss_chance(guesser, row, lot)) for row in rules.rows]
                    self.assertGreaterEqual(max(chances), fraction(mean_at(rules, lot)) / len(lot))
            if len(ties_by_hand(rules)) <= 4:
                for drawn in product([(0, 1), (1, 2), (2, 3), (1, 1)], repeat=len(ties_by_hand(rules))):
                    self.assertGreaterEqual(max(means_by_hand(rules, drawn)), fraction(least_mean(rules)))

    def test_less_than_the_dimension_and_half_of_it_where_free(self):
        for rules in small_lists() + larger_lists():
            d = dimension(rules)
            for lot in lots_by_hand(rules.size)[::1 if rules.size < 4 else 5]:
                self.assertLessEqual(fraction(mean_at(rules, lot)), d)
                self.assertIs(fraction(mean_at(rules, lot)) < d, d > 0)
            for lot in free_lots(rules)[::3]:
                self.assertEqual(fraction(mean_at(rules, lot)), Fraction(len(lot), 2))

    def test_behind_examples_drawn_by_any_source(self):
        for rules in some_lists():
            d = dimension(rules)
            drawn = Guesser(rules, "drawn")
            for m in (1, 2, 3, 8):
                bound = fraction(miss_bound(rules, m))
                self.assertEqual(bound, fraction(most_mean(rules, m)) / m)
                self.assertLessEqual(bound, Fraction(d, m))
                for source in sources_of(rules.size)[1:6:2]:
                    for row in rules.rows[::1 if rules.size < 4 else 9]:
                        self.assertLessEqual(fraction(miss_chance(drawn, row, source, m)), bound)

    def test_no_guesser_avoids_it(self):
        for rules in some_lists():
            lot = free_lots(rules)[-1][:3]
            d = len(lot)
            if d == 0:
                continue
            source = tuple((1, d) if point in lot else (0, 1) for point in range(rules.size))
            reading = {read_by_hand(row, lot): row for row in rules.rows}
            for kind in kinds_of(rules):
                guesser = Guesser(rules, kind)
                for m in (1, 2, 5):
                    greatest = max(fraction(miss_chance(guesser, row, source, m)) for row in reading.values())
                    self.assertGreaterEqual(greatest, fraction(unavoidable(d, m)))
                    self.assertEqual(fraction(unavoidable(d, m)), Fraction(1, 2) * (1 - Fraction(1, d)) ** (m - 1))

    def test_a_paper_that_is_taken_is_right(self):
        # Each drawn guess with each part of some small lists: only the true claim is ever taken.
        for rules in (full(1), full(2), Rules(2, [(0, 0), (0, 1), (1, 1)]), scattered(3, 1)):
            chances = [(0, 1), (1, 3), (1, 2), (2, 3), (1, 1)]
            parts = [tuple(k for k, c in enumerate(chosen) if c) for chosen in product((0, 1), repeat=len(rules))]
            taken = 0
            for drawn in product(chances, repeat=len(ties_by_hand(rules))):
                for part in parts:
                    for q in ((0, 1), (1, 2), (2, 3), (3, 4), (1, 1)):
                        if mean_holds(rules, ("mean", q), (drawn, part)):
                            self.assertEqual(fraction(q), densest_by_hand(rules))
                            taken += 1
            self.assertGreater(taken, 0)
            self.assertIs(mean_holds(rules, ("mean", least_mean(rules)), (best_drawn(rules), mean_paper(rules)[1])), True)

    def test_whoever_heeds_the_order_shown_does_no_better(self):
        numbers = random.Random(2)
        for rules in some_lists():
            for lot in [lot for lot in lots_by_hand(rules.size) if 0 < len(lot) < 4][::2]:
                for _ in range(3):
                    guesses = {}
                    wrong = [self.missed_in_order(row, lot, guesses, numbers) for row in seen_by_hand(rules, lot)]
                    self.assertGreaterEqual(max(wrong), fraction(mean_at(rules, lot)) / len(lot))

    def missed_in_order(self, read, lot, guesses, numbers):
        """The chance of a wrong guess at the last point, by chances that are drawn for each order shown."""
        missed = []
        for order in permutations(range(len(lot))):
            shown = tuple((place, read[place]) for place in order[:-1])
            yes = guesses.setdefault((shown, order[-1]), Fraction(numbers.randrange(5), 4))
            missed.append(yes if read[order[-1]] == 0 else 1 - yes)
        return sum(missed) / len(missed)

    def test_without_draws_the_fewest_misses(self):
        for rules in some_lists():
            for lot in lots_by_hand(rules.size)[1::3]:
                seen = rules.seen_at(lot)
                many = len(ties_by_hand(seen))
                if many <= 9:
                    worst = [max(means_by_hand(seen, [(value, 1) for value in guess])) for guess in product((0, 1), repeat=many)]
                    self.assertEqual(min(worst), misses_at(rules, lot))

    def test_lists_of_each_kind(self):
        for kind in KINDS:
            for points in points_of(kind)[1::3]:
                rules = rules_cut(kind, points)
                d, most = dimension(rules), most_free(kind, len(points[0]))
                self.assertLessEqual(d, most)
                for m in (1, 2, 5, 30):
                    bound = fraction(miss_bound(rules, m))
                    self.assertLessEqual(bound, Fraction(d, m))
                    self.assertLessEqual(bound, Fraction(most, m))

    def test_whatever_paper_is_taken_is_right(self):
        # Every paper of a small list is tried with claims near the true one.
        for rules in (full(0), full(1), Rules(1, [(1,)]), full(2), Rules(2, [(0, 0), (0, 1), (1, 1)]), Rules(2, [(0, 1), (1, 0)])):
            lot = tuple(range(rules.size))
            parts = [tuple(k for k, chosen in enumerate(row) if chosen) for row in product((0, 1), repeat=len(rules))]
            many = len(ties_by_hand(rules))
            guesses = list(product((0, 1), repeat=many))
            drawn = list(product([(0, 1), (1, 3), (1, 2), (2, 3), (1, 1)], repeat=many))
            self.assert_only_true_claims(rules, ("misses", lot), range(4), list(product(guesses, parts)))
            self.assert_only_true_claims(rules, ("mean", lot), [(0, 1), (1, 2), (2, 3), (1, 1), (3, 2)], list(product(drawn, parts)))
            rows = [row for size in range(rules.size + 2) for row in product((0, 1), repeat=size)]
            bars = [bars for size in range(3) for bars in product(rows, repeat=size)]
            self.assert_only_true_claims(rules, ("dimension",), range(4), list(product(lots_by_hand(rules.size), bars)))

    def assert_only_true_claims(self, rules, question, worths, papers):
        taken = 0
        for worth in worths:
            for paper in papers:
                if claim_holds(rules, question, (question[0], worth), paper):
                    self.assertEqual((question[0], worth), answer_of(rules, question))
                    taken += 1
        self.assertGreater(taken, 0)
        self.assertIs(claim_holds(rules, question, answer_of(rules, question), paper_of(rules, question)), True)

    def test_a_desk_tells_what_is_true_of_its_list(self):
        for seed, rules in enumerate(desk_lists()):
            desk, text = led_desk(rules, seed + 60)
            self.assertIs(history_holds(text), True)
            for told in (desk, relived(text)):
                self.assertEqual(write_history(told), text)
                for question in told.watched():
                    self.assertEqual(told.claim(question), answer_of(told.now(), question))
                    self.assertIs(claim_holds(told.now(), question, told.claim(question), told.paper_for(question)), True)
            self.assertIsInstance(desk, Desk)
