from fractions import Fraction
from itertools import permutations, product
from math import prod

from nextguess.errors import InvalidLot, InvalidNumber, InvalidRow, InvalidShare, InvalidSource
from nextguess.freedom import free_lots
from nextguess.guessers import Guesser
from nextguess.lists import Rules
from nextguess.lotwise import mean_at, most_mean, most_misses
from nextguess.shares import share_of
from nextguess.sources import (
    chance_of_lot, examples_enough, is_source, last_miss_chance, miss_bound, miss_chance, unavoidable,
)
from tests.byhand import are_one_by_hand, fraction, is_chance_by_hand, kinds_of, pair, read_by_hand
from tests.cases import Lists
from tests.samples import (
    NO_CHANCES, UNEVEN, full, larger_lists, lots_by_hand, near_sources, no_lots, odd_values, scattered, small_lists, sources_of,
)

SOME = Rules(3, [(0, 0, 0), (0, 0, 1), (0, 1, 0), (1, 1, 1)])
STEPS = Rules(3, [(0, 0, 0), (0, 0, 1), (0, 1, 1), (1, 1, 1)])
EVEN = Rules(4, [row for row in full(4).rows if sum(row) % 2 == 0])
KINDS = ("best", "drawn", "closing", "most")
NO_NUMBERS = [-1, -10 ** 12, True, False, None, "", "1", (), (1,), [1], (1, 1), SOME]


def chance_by_hand(source, lot, m):
    """The chance that m drawn points are just those of the lot, over all draws."""
    total = Fraction(0)
    for draws in product(range(len(source)), repeat=m):
        if set(draws) == set(lot):
            total += prod([fraction(source[point]) for point in draws], start=Fraction(1))
    return total


def miss_by_hand(guesser, row, shown_points, point):
    """The chance that the guess at a point is wrong, row's values at other points being shown."""
    yes = fraction(guesser.yes(tuple((other, row[other]) for other in sorted(shown_points)), point))
    return yes if row[point] == 0 else 1 - yes


def miss_chance_by_hand(guesser, row, source, m):
    """The chance of a wrong guess at the m-th drawn point, over all draws."""
    total = Fraction(0)
    for draws in product(range(len(source)), repeat=m):
        *ahead, point = draws
        if point not in ahead:
            chance = prod([fraction(source[each]) for each in draws])
            total += chance * miss_by_hand(guesser, row, set(ahead), point)
    return total


def last_by_hand(guesser, row, lot):
    """The chance of a wrong guess at the last point, over all orders of the lot."""
    orders = list(permutations(lot))
    return sum([miss_by_hand(guesser, row, set(order[:-1]), order[-1]) for order in orders]) / len(orders)


class Sources(Lists):
    def test_sources(self):
        for size in range(1, 9):
            for source in sources_of(size):
                self.assertIs(is_source(source, size), True)
                self.assertIs(is_source(size=size, value=source), True)
                self.assertIs(is_source(source, size - 1), False)
                self.assertIs(is_source(source, size + 1), False)
        self.assertIs(is_source(((1, 3), (0, 1), (2, 3)), 3), True)
        self.assertIs(is_source(((0, 1), (1, 1)), 2), True)
        self.assertIs(is_source(((1, 2), (1, 3)), 2), False)
        self.assertIs(is_source(((1, 2), (2, 4)), 2), False)
        self.assertIs(is_source(((3, 2), (-1, 2)), 2), False)
        self.assertIs(is_source((), 0), False)

    def test_any_value_at_all(self):
        for size in (0, 1, 2, 3, 6, 10 ** 12):
            for value in odd_values() + near_sources(min(size, 6)):
                self.assertIs(is_source(value, size), size > 0 and are_one_by_hand(value, size), value)


class Lots(Lists):
    def test_small_examples(self):
        source = ((1, 2), (1, 3), (1, 6))
        self.assert_told(chance_of_lot(source, (), 0), (1, 1))
        self.assert_told(chance_of_lot(source, (0,), 0), (0, 1))
        self.assert_told(chance_of_lot(source, (), 3), (0, 1))
        self.assert_told(chance_of_lot(source, (0,), 3), (1, 8))
        self.assert_told(chance_of_lot(source, (0, 1), 2), (1, 3))
        self.assert_told(chance_of_lot(source, (0, 1, 2), 3), (1, 6))
        self.assert_told(chance_of_lot(source, (0, 1, 2), 2), (0, 1))
        self.assert_told(chance_of_lot(m=1, lot=(2,), source=source), (1, 6))
        self.assert_told(chance_of_lot(((1, 1),), (0,), 30), (1, 1))
        self.assert_told(chance_of_lot(((1, 1), (0, 1)), (0, 1), 30), (0, 1))

    def test_all_draws(self):
        for size in range(1, 5):
            for source in sources_of(size):
                for m in range(6 if size < 4 else 5):
                    for lot in lots_by_hand(size):
                        self.assert_told(chance_of_lot(source, lot, m), pair(chance_by_hand(source, lot, m)))

    def test_thirty_draws_of_six_points(self):
        for source in sources_of(6) + [UNEVEN]:
            for m in (0, 1, 29, 30):
                chances = [chance_of_lot(source, lot, m) for lot in lots_by_hand(6)]
                self.assertTrue(all(is_chance_by_hand(chance) for chance in chances))
                self.assertEqual(sum(map(fraction, chances)), 1)
                for lot, chance in zip(lots_by_hand(6), chances):
                    if len(lot) == 1:
                        self.assertEqual(fraction(chance), fraction(source[lot[0]]) ** m if m else 0)

    def test_errors_and_their_order(self):
        source = ((1, 2), (1, 3), (1, 6))
        for wrong in near_sources(3) + odd_values():
            if type(wrong) is not tuple or not are_one_by_hand(wrong, len(wrong)):
                for lot, m in (((0,), 1), (None, 1), ((0,), None), ([], -1)):
                    self.assert_raises_with(InvalidSource, "value", wrong, chance_of_lot, wrong, lot, m)
                    self.assert_raises_with(InvalidSource, "value", wrong, chance_of_lot, m=m, lot=lot, source=wrong)
        for wrong in no_lots(3):
            for m in (2, None, -1):
                self.assert_raises_with(InvalidLot, "value", wrong, chance_of_lot, source, wrong, m)
                self.assert_raises_with(InvalidLot, "value", wrong, chance_of_lot, m=m, lot=wrong, source=source)
        for wrong in NO_NUMBERS + [value for value in odd_values() if type(value) is not int or value < 0]:
            self.assert_raises_with(InvalidNumber, "value", wrong, chance_of_lot, source, (0, 2), wrong)
            self.assert_raises_with(InvalidNumber, "value", wrong, chance_of_lot, m=wrong, lot=(0, 2), source=source)

    def test_stays(self):
        for lot in ((), (0, 1), [0]):
            for m in (0, 3, None):
                self.assert_stays([], chance_of_lot, ((1, 4), (3, 4)), lot, m)


class Misses(Lists):
    def test_small_examples(self):
        like = ((1, 3), (1, 3), (1, 3))
        # Of the steps the and is guessed: wrong at the first yes-point if no yes ahead of it is shown.
        closing = Guesser(STEPS, "closing")
        self.assert_told(miss_chance(closing, (0, 0, 1), like, 1), (1, 3))
        self.assert_told(miss_chance(closing, (0, 0, 1), like, 2), (2, 9))
        self.assert_told(miss_chance(closing, (0, 1, 1), like, 1), (2, 3))
        self.assert_told(miss_chance(closing, (0, 1, 1), like, 2), (1, 3))
        self.assert_told(miss_chance(closing, (0, 0, 0), like, 30), (0, 1))
        self.assert_told(miss_chance(m=1, source=((1, 1),), row=(1,), guesser=Guesser(full(1), "drawn")), (1, 2))
        self.assert_told(miss_chance(Guesser(full(1), "drawn"), (1,), ((1, 1),), 2), (0, 1))

    def test_all_draws(self):
        for rules in [rules for rules in small_lists() if rules.size > 0][::17] + [SOME, STEPS, EVEN]:
            for kind in kinds_of(rules):
                guesser = Guesser(rules, kind)
                for source in sources_of(rules.size)[1::3]:
                    for row in rules.rows[::2]:
                        for m in range(1, 5 if rules.size < 3 else 4):
                            chance = miss_chance(guesser, row, source, m)
                            self.assert_told(chance, pair(miss_chance_by_hand(guesser, row, source, m)))

    def test_thirty_draws_of_six_points(self):
        for rules in (full(6), larger_lists()[-1], larger_lists()[-2], larger_lists()[9]):
            for kind in kinds_of(rules):
                guesser = Guesser(rules, kind)
                source = sources_of(rules.size)[1] if rules.size < 6 else UNEVEN
                for m in (29, 30):
                    self.assertTrue(is_chance_by_hand(miss_chance(guesser, rules.rows[1], source, m)))

    def test_errors_and_their_order(self):
        source = ((1, 2), (1, 3), (1, 6))
        rows = [(0, 1, 1), (0, 0), (0, 0, 0, 0), (False, 0, 0), (0, 0, True), [0, 0, 0], "000", None, ((0, 0, 0),)]
        for kind in KINDS:
            guesser = Guesser(SOME, kind)
            for wrong in rows + odd_values():
                for other, m in ((source, 1), (None, 1), (source, 0), ([], None)):
                    self.assert_raises_with(InvalidRow, "value", wrong, miss_chance, guesser, wrong, other, m)
            for wrong in near_sources(3) + odd_values():
                if not are_one_by_hand(wrong, 3):
                    for m in (1, 0, None):
                        self.assert_raises_with(InvalidSource, "value", wrong, miss_chance, guesser, (0, 0, 1), wrong, m)
            for wrong in NO_NUMBERS + [0] + [value for value in odd_values() if type(value) is not int or value < 1]:
                self.assert_raises_with(InvalidNumber, "value", wrong, miss_chance, guesser, (0, 0, 1), source, wrong)
                self.assert_raises_with(
                    InvalidNumber, "value", wrong, miss_chance, m=wrong, source=source, row=(0, 0, 1), guesser=guesser,
                )
            self.assert_raises_with(InvalidSource, "value", (), miss_chance, Guesser(full(0), kind), (), (), 1)

    def test_stays(self):
        for rules in (SOME, STEPS):
            for kind in kinds_of(rules):
                guesser = Guesser(rules, kind)
                for source in (((1, 2), (1, 3), (1, 6)), (), None):
                    self.assert_stays([rules], miss_chance, guesser, (0, 0, 1), source, 3)
                    self.assertEqual(guesser, Guesser(rules, kind))


class Last(Lists):
    def test_small_examples(self):
        closing = Guesser(STEPS, "closing")
        self.assert_told(last_miss_chance(closing, (0, 0, 1), (0, 1, 2)), (1, 3))
        self.assert_told(last_miss_chance(closing, (0, 1, 1), (1,)), (1, 1))
        self.assert_told(last_miss_chance(closing, (0, 0, 0), (0, 2)), (0, 1))
        self.assert_told(last_miss_chance(lot=(0,), row=(1,), guesser=Guesser(full(1), "drawn")), (1, 2))

    def test_all_orders(self):
        for rules in small_lists()[::13] + [SOME, STEPS, EVEN, scattered(5, 3)]:
            for kind in kinds_of(rules):
                guesser = Guesser(rules, kind)
                for lot in lots_by_hand(rules.size)[1::1 if rules.size < 4 else 4]:
                    for row in rules.rows[::2]:
                        self.assert_told(last_miss_chance(guesser, row, lot), pair(last_by_hand(guesser, row, lot)))

    def test_errors_and_their_order(self):
        rows = [(0, 1, 1), (0, 0), (0, 0, 0, 0), (False, 0, 0), [0, 0, 0], "000", None]
        for kind in KINDS:
            guesser = Guesser(SOME, kind)
            for wrong in rows + odd_values():
                for lot in ((0, 1), (), None, (0, 3)):
                    self.assert_raises_with(InvalidRow, "value", wrong, last_miss_chance, guesser, wrong, lot)
            for wrong in no_lots(3) + [()]:
                self.assert_raises_with(InvalidLot, "value", wrong, last_miss_chance, guesser, (0, 0, 1), wrong)
                self.assert_raises_with(
                    InvalidLot, "value", wrong, last_miss_chance, lot=wrong, row=(0, 0, 1), guesser=guesser,
                )
            self.assert_raises_with(InvalidLot, "value", (), last_miss_chance, Guesser(full(0), kind), (), ())

    def test_stays(self):
        for rules in (SOME, STEPS):
            for kind in kinds_of(rules):
                guesser = Guesser(rules, kind)
                for lot in ((0, 2), (), None):
                    self.assert_stays([rules], last_miss_chance, guesser, (0, 0, 1), lot)
                    self.assertEqual(guesser, Guesser(rules, kind))


class Bound(Lists):
    def test_miss_bound(self):
        self.assert_told(miss_bound(full(3), 1), (1, 2))
        self.assert_told(miss_bound(full(3), 4), (3, 8))
        self.assert_told(miss_bound(m=3, rules=STEPS), (1, 4))
        self.assert_told(miss_bound(Rules(2, [(0, 1)]), 5), (0, 1))
        self.assert_told(miss_bound(full(0), 1), (0, 1))
        for rules in small_lists()[::5] + larger_lists()[::3]:
            for m in (1, 2, 3, 5, 6, 7, 30, 10 ** 12 - 1):
                self.assert_told(miss_bound(rules, m), pair(fraction(most_mean(rules, m)) / m))

    def test_wrong_numbers(self):
        for rules in (full(0), SOME):
            for wrong in NO_NUMBERS + [0] + [value for value in odd_values() if type(value) is not int or value < 1]:
                self.assert_raises_with(InvalidNumber, "value", wrong, miss_bound, rules, wrong)
                self.assert_raises_with(InvalidNumber, "value", wrong, miss_bound, m=wrong, rules=rules)

    def test_misses_keep_to_it(self):
        """What [19] says in bold of miss_chance."""
        for rules in [rules for rules in small_lists() if rules.size > 0][::13] + larger_lists()[::5] + [EVEN]:
            for kind in ("drawn", "best"):
                guesser = Guesser(rules, kind)
                for m in (1, 2, 3, 6):
                    bound = fraction(miss_bound(rules, m)) if kind == "drawn" else Fraction(most_misses(rules, m), m)
                    for source in sources_of(rules.size)[:3]:
                        for row in rules.rows[::3 if rules.size < 4 else 9]:
                            self.assertLessEqual(fraction(miss_chance(guesser, row, source, m)), bound)

    def test_the_last_miss_keeps_to_mean_at(self):
        """What [19] says in bold of last_miss_chance."""
        for rules in small_lists()[::5] + larger_lists()[::2] + [EVEN]:
            guesser = Guesser(rules, "drawn")
            for lot in lots_by_hand(rules.size)[1::1 if rules.size < 4 else 6]:
                chances = [fraction(last_miss_chance(guesser, row, lot)) for row in rules.rows]
                self.assertEqual(max(chances), fraction(mean_at(rules, lot)) / len(lot))

    def test_stays(self):
        for rules in (full(0), SOME, scattered(5, 3)):
            for m in (1, 4, 0, None):
                self.assert_stays([rules], miss_bound, rules, m)
            for chance in ((1, 10), (0, 1), None):
                self.assert_stays([rules], examples_enough, rules, chance)


class Enough(Lists):
    def test_small_examples(self):
        self.assert_told(examples_enough(full(3), (1, 2)), 1)
        self.assert_told(examples_enough(full(3), (49, 100)), 4)
        self.assert_told(examples_enough(full(3), (1, 4)), 6)
        self.assert_told(examples_enough(chance=(1, 100), rules=full(3)), 150)
        self.assert_told(examples_enough(full(3), (7, 2)), 1)
        self.assert_told(examples_enough(STEPS, (1, 4)), 3)
        self.assert_told(examples_enough(STEPS, (1, 3)), 2)
        self.assert_told(examples_enough(full(0), (1, 10 ** 11)), 1)
        self.assert_told(examples_enough(Rules(6, [(0, 1, 0, 1, 0, 1)]), (1, 10 ** 11)), 1)
        self.assert_told(examples_enough(full(6), (1, 10 ** 12 - 1)), 3 * (10 ** 12 - 1))

    def test_the_least_from_which_on_the_bound_holds(self):
        chances = [(1, 2), (2, 5), (1, 3), (1, 4), (3, 10), (1, 5), (1, 7), (1, 20), (5, 1), (3, 7), (25, 64), (5, 12)]
        for rules in small_lists()[::9] + larger_lists()[::2] + [EVEN]:
            bounds = [Fraction(9)] + [fraction(miss_bound(rules, m)) for m in range(1, 8)]
            most = fraction(most_mean(rules, rules.size))
            bounds += [most / m for m in range(8, 70)]
            for chance in chances:
                wanted = max(m for m in range(70) if bounds[m] > fraction(chance) or m == 0) + 1
                self.assert_told(examples_enough(rules, chance), wanted)

    def test_wrong_shares(self):
        wrong = [(0, 1), (-1, 2), (2, 4), (1, 0), (1, -2), (True, 2), (1, True), [1, 2], (1,), (1, 2, 3), None, "1/2", 1, 0]
        for rules in (full(0), SOME):
            for chance in wrong + [value for value in odd_values() if value != (2, 1)]:
                self.assert_raises_with(InvalidShare, "value", chance, examples_enough, rules, chance)
                self.assert_raises_with(InvalidShare, "value", chance, examples_enough, chance=chance, rules=rules)
        for chance in NO_CHANCES:
            if chance not in ((2, 1), (3, 2)):
                self.assert_raises_with(InvalidShare, "value", chance, examples_enough, SOME, chance)


class Unavoidable(Lists):
    def test_small_examples(self):
        self.assert_told(unavoidable(1, 1), (1, 2))
        self.assert_told(unavoidable(1, 2), (0, 1))
        self.assert_told(unavoidable(1, 30), (0, 1))
        self.assert_told(unavoidable(2, 1), (1, 2))
        self.assert_told(unavoidable(2, 3), (1, 8))
        self.assert_told(unavoidable(m=5, d=3), (8, 81))
        for d in (1, 2, 3, 7, 999, 10 ** 12 - 1):
            for m in (1, 2, 3, 29, 30):
                self.assert_told(unavoidable(d, m), pair(Fraction(1, 2) * (1 - Fraction(1, d)) ** (m - 1)))

    def test_errors_and_their_order(self):
        for wrong in NO_NUMBERS + [0] + [value for value in odd_values() if type(value) is not int or value < 1]:
            for m in (1, 0, None):
                self.assert_raises_with(InvalidNumber, "value", wrong, unavoidable, wrong, m)
                self.assert_raises_with(InvalidNumber, "value", wrong, unavoidable, m=m, d=wrong)
            self.assert_raises_with(InvalidNumber, "value", wrong, unavoidable, 2, wrong)
            self.assert_raises_with(InvalidNumber, "value", wrong, unavoidable, m=wrong, d=2)

    def test_at_free_lots(self):
        """What [19] says in bold of unavoidable."""
        for rules in small_lists()[3::19] + [larger_lists()[8], scattered(4, 3), SOME, full(3)]:
            for lot in [lot for lot in free_lots(rules) if lot][::1 if rules.size < 4 else 4]:
                d = len(lot)
                source = tuple((1, d) if point in lot else (0, 1) for point in range(rules.size))
                reading = {read_by_hand(row, lot): row for row in rules.rows}
                self.assertEqual(len(reading), 2 ** d)
                for kind in kinds_of(rules):
                    guesser = Guesser(rules, kind)
                    for m in (1, 2, 3, 7):
                        chances = [fraction(miss_chance(guesser, row, source, m)) for row in reading.values()]
                        self.assertEqual(pair(sum(chances) / 2 ** d), unavoidable(d, m))
                        self.assertGreaterEqual(max(chances), fraction(unavoidable(d, m)))

    def test_stays(self):
        for d, m in ((1, 1), (3, 4), (0, 1), (1, None)):
            self.assert_stays([], unavoidable, d, m)
        self.assertEqual(share_of(1, 2), unavoidable(5, 1))
