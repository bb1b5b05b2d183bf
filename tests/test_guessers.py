from itertools import product

from nextguess.drawn import best_drawn, means_of
from nextguess.errors import InvalidLot, InvalidPoint, InvalidRow, InvalidRules, InvalidShown, Undefined
from nextguess.guessers import Guesser
from nextguess.guesses import best_guess
from nextguess.lists import Rules
from nextguess.lotwise import mean_at, misses_at
from nextguess.shares import less
from nextguess.webs import ties_of
from tests.byhand import (
    fitting_by_hand, fraction, is_chance_by_hand, is_closed_by_hand, kinds_of, means_by_hand, read_by_hand,
    strongly_free_places, ties_by_hand,
)
from tests.cases import Lists, outcome
from tests.samples import (
    full, larger_lists, lots_by_hand, no_lots, odd_values, rows_by_hand, scattered, seen_by_hand, small_lists,
)

KINDS = ("best", "drawn", "closing", "most")
SOME = Rules(3, [(0, 0, 0), (0, 0, 1), (0, 1, 0), (1, 1, 1)])
OPEN = Rules(2, [(0, 1), (1, 0)])
STEPS = Rules(3, [(0, 0, 0), (0, 0, 1), (0, 1, 1), (1, 1, 1)])


def shown_of(rules):
    """All shown answers of a list."""
    for lot in lots_by_hand(rules.size):
        for values in rows_by_hand(len(lot)):
            yield tuple(zip(lot, values))


def at_tie(rules, shown, point, chances):
    """What chances for the ties of the list that is seen tell at the tie that fits."""
    answers = dict(shown)
    lot = tuple(sorted([*answers, point]))
    seen = rules.seen_at(lot)
    place = lot.index(point)
    for (i, j, at), chance in zip(ties_by_hand(seen), chances(seen)):
        if at == place and all(seen.rows[i][k] == answers[other] for k, other in enumerate(lot) if other != point):
            return chance
    raise AssertionError("no tie")


def yes_by_hand(rules, kind, shown, point):
    """What yes is to tell, by the words of DOC.md."""
    fitting = fitting_by_hand(rules, shown)
    many = sum(row[point] for row in fitting)
    if many in (0, len(fitting)):
        return (int(many > 0), 1)
    if kind == "best":
        return (at_tie(rules, shown, point, best_guess), 1)
    if kind == "drawn":
        return at_tie(rules, shown, point, best_drawn)
    if kind == "closing":
        return (0, 1)
    return (1, 2) if 2 * many == len(fitting) else (int(2 * many > len(fitting)), 1)


def misses_by_hand(guesser, lot, row):
    """What misses is to tell, by way of yes."""
    chances = []
    for point in lot:
        yes = guesser.yes(tuple((other, row[other]) for other in lot if other != point), point)
        chances.append(yes if row[point] == 0 else less((1, 1), yes))
    return tuple(chances)


class Making(Lists):
    def test_attributes(self):
        for rules in (full(0), SOME, STEPS, full(6)):
            for kind in kinds_of(rules):
                for guesser in (Guesser(rules, kind), Guesser(kind=kind, rules=rules)):
                    self.assertIs(guesser.rules, rules)
                    self.assertEqual(guesser.kind, kind)

    def test_wrong_rules(self):
        for rules in odd_values() + [(3, ((0, 0, 0),)), Guesser(SOME, "best"), Rules]:
            if not isinstance(rules, Rules):
                for kind in ("best", "closing", "none", None):
                    self.assert_raises_with(InvalidRules, "value", rules, Guesser, rules, kind)
                    self.assert_raises_with(InvalidRules, "value", rules, Guesser, kind=kind, rules=rules)

    def test_wrong_kinds(self):
        for kind in odd_values() + ["Best", "best ", "", "worst", ("best",), ["drawn"], b"best", KINDS, 0, "closed"]:
            for rules in (SOME, OPEN):
                self.assert_raises_with(Undefined, "what", "kind", Guesser, rules, kind)
                self.assert_raises_with(Undefined, "what", "kind", Guesser, kind=kind, rules=rules)

    def test_closing_of_closed_lists_only(self):
        self.assert_raises_with(Undefined, "what", "and", Guesser, OPEN, "closing")
        for rules in small_lists() + larger_lists():
            if is_closed_by_hand(rules):
                self.assertEqual(Guesser(rules, "closing").kind, "closing")
            else:
                self.assert_raises_with(Undefined, "what", "and", Guesser, rules, "closing")

    def test_equal(self):
        for rules in (full(0), STEPS):
            for kind in KINDS:
                guesser = Guesser(rules, kind)
                self.assertTrue(guesser == Guesser(Rules(rules.size, rules.rows[::-1]), kind))
                self.assertFalse(guesser != Guesser(rules, kind))
                for other in KINDS:
                    self.assertIs(guesser == Guesser(rules, other), other == kind)
                for other in odd_values() + [rules, kind, (rules, kind), SOME, Guesser(full(1), kind), Guesser(full(3), kind)]:
                    self.assertFalse(guesser == other)
                    self.assertFalse(other == guesser)
                    self.assertTrue(guesser != other)


class Yes(Lists):
    def test_small_examples(self):
        # Of SOME ((0, 1), (1, 0)) fits one rule with no and one with yes at 2.
        shown = ((0, 0), (1, 0))
        self.assert_told(Guesser(SOME, "most").yes(shown, 2), (1, 2))
        self.assert_told(Guesser(SOME, "closing").yes(shown, 2), (0, 1))
        self.assertIn(Guesser(SOME, "best").yes(shown, 2), [(0, 1), (1, 1)])
        for kind in KINDS:
            guesser = Guesser(SOME, kind)
            self.assert_told(guesser.yes(((1, 1), (2, 1)), 0), (1, 1))
            self.assert_told(guesser.yes(((1, 0),), 0), (0, 1))
            self.assert_told(guesser.yes(point=1, shown=((0, 1),)), (1, 1))
        # Three of the four rules have no at 0, two of them at 1.
        self.assert_told(Guesser(SOME, "most").yes((), 0), (0, 1))
        self.assert_told(Guesser(SOME, "most").yes((), 1), (1, 2))
        self.assert_told(Guesser(STEPS, "most").yes((), 2), (1, 1))
        self.assert_told(Guesser(STEPS, "drawn").yes((), 1), (1, 2))
        # At (1, 2) the steps read 00, 01 and 11: only these chances keep to 2 / 3.
        self.assert_told(Guesser(STEPS, "drawn").yes(((1, 0),), 2), (2, 3))
        self.assert_told(Guesser(STEPS, "drawn").yes(((2, 1),), 1), (1, 3))

    def test_all_shown_answers_of_small_lists(self):
        for rules in small_lists()[::3] + [SOME, STEPS]:
            for kind in kinds_of(rules):
                guesser = Guesser(rules, kind)
                for shown in shown_of(rules):
                    for point in set(range(rules.size)) - set(dict(shown)):
                        if fitting_by_hand(rules, shown):
                            self.assert_told(guesser.yes(shown, point), yes_by_hand(rules, kind, shown, point))
                        else:
                            self.assert_raises_with(Undefined, "what", "rules", guesser.yes, shown, point)
                            self.assert_raises_with(Undefined, "what", "rules", guesser.yes, point=point, shown=shown)

    def test_some_shown_answers_of_larger_lists(self):
        for rules in larger_lists() + [scattered(7, 5)]:
            for kind in kinds_of(rules):
                guesser = Guesser(rules, kind)
                for row in rules.rows[::9]:
                    for lot in lots_by_hand(rules.size)[1::5]:
                        shown = tuple((point, row[point]) for point in lot[1:])
                        self.assert_told(guesser.yes(shown, lot[0]), yes_by_hand(rules, kind, shown, lot[0]))
                        shown = tuple((point, row[point]) for point in lot[:-1])
                        self.assert_told(guesser.yes(shown, lot[-1]), yes_by_hand(rules, kind, shown, lot[-1]))

    def test_wrong_shown_answers(self):
        wrong = [[], [(0, 0)], ((0, 0), (0, 1)), ((1, 0), (0, 0)), ((3, 0),), ((-1, 0),), ((0, 2),), ((0, True),), ((True, 0),),
                 ((0, None),), ([0, 0],), ((0,),), ((0, 0, 0),), (0, 0), ((0, 0), None), "0", None]
        for kind in KINDS:
            guesser = Guesser(SOME, kind)
            for shown in wrong + [value for value in odd_values() if value not in ((), ((0, 1), (1, 0)))]:
                for point in (2, 9, None):
                    self.assert_raises_with(InvalidShown, "value", shown, guesser.yes, shown, point)
                    self.assert_raises_with(InvalidShown, "value", shown, guesser.yes, point=point, shown=shown)

    def test_wrong_points(self):
        # Of the last of these no rule fits: the point is refused ahead of that.
        for shown in ((), ((0, 0),), ((0, 1), (1, 0))):
            known = [point for point, _ in shown]
            for kind in KINDS:
                guesser = Guesser(SOME, kind)
                for point in odd_values() + known + [3, -1, 10 ** 12, (2,), "2", [2], False, True, None]:
                    if type(point) is not int or point in known or not 0 <= point < 3:
                        self.assert_raises_with(InvalidPoint, "value", point, guesser.yes, shown, point)
                        self.assert_raises_with(InvalidPoint, "value", point, guesser.yes, point=point, shown=shown)
        for kind in KINDS:
            self.assert_raises_with(InvalidPoint, "value", 0, Guesser(full(0), kind).yes, (), 0)

    def test_no_rule_fits(self):
        for kind in ("best", "drawn", "most"):
            self.assert_raises_with(Undefined, "what", "rules", Guesser(SOME, kind).yes, ((0, 1), (1, 0)), 2)
            self.assert_raises_with(Undefined, "what", "rules", Guesser(Rules(2, [(0, 0)]), kind).yes, ((1, 1),), 0)

    def test_stays(self):
        for rules in (SOME, STEPS, scattered(5, 3)):
            for kind in kinds_of(rules):
                guesser = Guesser(rules, kind)
                for shown in ((), ((0, 0),), ((0, 1), (1, 0)), [], None):
                    for point in (2, 0, None):
                        self.assert_stays([rules], guesser.yes, shown, point)
                        again = Guesser(Rules(rules.size, rules.rows), kind)
                        first = outcome(guesser.yes, (shown, point))
                        self.assertEqual(outcome(again.yes, (shown, point)), first)
                self.assertEqual(guesser, Guesser(rules, kind))


class Misses(Lists):
    def test_small_examples(self):
        self.assert_told(Guesser(STEPS, "closing").misses((0, 1, 2), (0, 0, 1)), ((0, 1), (0, 1), (1, 1)))
        self.assert_told(Guesser(STEPS, "closing").misses((0, 1, 2), (0, 0, 0)), ((0, 1), (0, 1), (0, 1)))
        self.assert_told(Guesser(STEPS, "closing").misses((1,), (0, 1, 1)), ((1, 1),))
        self.assert_told(Guesser(STEPS, "most").misses((1, 2), (0, 0, 1)), ((1, 1), (1, 2)))
        self.assert_told(Guesser(STEPS, "most").misses((0, 1, 2), (0, 0, 1)), ((0, 1), (1, 2), (1, 2)))
        self.assert_told(Guesser(full(2), "drawn").misses((1,), (1, 0)), ((1, 2),))
        self.assert_told(Guesser(STEPS, "drawn").misses((1, 2), (0, 0, 1)), ((1, 3), (1, 3)))
        for kind in KINDS:
            self.assert_told(Guesser(full(0), kind).misses((), ()), ())
            self.assert_told(Guesser(full(3), kind).misses((), (0, 1, 0)), ())
            self.assert_told(Guesser(Rules(3, [(0, 1, 1)]), kind).misses(row=(0, 1, 1), lot=(0, 2)), ((0, 1), (0, 1)))

    def test_each_lot_and_rule(self):
        for rules in small_lists()[::2] + larger_lists()[::3] + [SOME, STEPS]:
            for kind in kinds_of(rules):
                guesser = Guesser(rules, kind)
                for lot in lots_by_hand(rules.size)[::1 if rules.size < 4 else 7]:
                    for row in rules.rows[::1 if rules.size < 4 else 11]:
                        misses = guesser.misses(lot, row)
                        self.assert_told(misses, misses_by_hand(guesser, lot, row))
                        self.assertTrue(all(is_chance_by_hand(chance) for chance in misses))

    def test_wrong_lots(self):
        for kind in KINDS:
            guesser = Guesser(SOME, kind)
            for lot in no_lots(3):
                for row in ((0, 0, 0), (1, 1, 0), None):
                    self.assert_raises_with(InvalidLot, "value", lot, guesser.misses, lot, row)
                    self.assert_raises_with(InvalidLot, "value", lot, guesser.misses, row=row, lot=lot)

    def test_wrong_rows(self):
        wrong = [(0, 1, 1), (0, 0), (0, 0, 0, 0), (False, 0, 0), (0, 0, True), [0, 0, 0], "000", None, ((0, 0, 0),)]
        for kind in KINDS:
            guesser = Guesser(SOME, kind)
            for row in wrong + odd_values():
                for lot in ((), (0, 1, 2)):
                    self.assert_raises_with(InvalidRow, "value", row, guesser.misses, lot, row)
                    self.assert_raises_with(InvalidRow, "value", row, guesser.misses, row=row, lot=lot)

    def test_stays(self):
        for rules in (SOME, STEPS, scattered(5, 3)):
            for kind in kinds_of(rules):
                guesser = Guesser(rules, kind)
                for lot in ((), (0, 1), [0], (9,)):
                    for row in (rules.rows[0], None):
                        self.assert_stays([rules], guesser.misses, lot, row)
                self.assertEqual(guesser, Guesser(rules, kind))


class Bounds(Lists):
    """What [17] says in bold."""

    def test_sums_of_best_and_drawn(self):
        for rules in small_lists()[::2] + larger_lists():
            for lot in lots_by_hand(rules.size)[::-1 if rules.size < 4 else -7]:
                for kind, most in (("best", (misses_at(rules, lot), 1)), ("drawn", mean_at(rules, lot))):
                    guesser = Guesser(rules, kind)
                    sums = [sum(map(fraction, guesser.misses(lot, row))) for row in rules.rows]
                    self.assertLessEqual(max(sums), fraction(most))
                    if kind == "drawn":
                        self.assertEqual(max(sums), fraction(most))

    def test_whoever_guesses_comes_to_as_much(self):
        for rules in small_lists() + larger_lists()[::2]:
            for kind in kinds_of(rules):
                guesser = Guesser(rules, kind)
                for lot in lots_by_hand(rules.size)[::-1 if rules.size < 3 else -11]:
                    sums = [sum(map(fraction, guesser.misses(lot, row))) for row in rules.rows]
                    self.assertGreaterEqual(max(sums), fraction(mean_at(rules, lot)))
                    if kind in ("best", "closing"):
                        self.assertGreaterEqual(max(sums), misses_at(rules, lot))

    def test_every_guess_comes_to_as_much(self):
        for rules in [rules for rules in small_lists() if len(ties_by_hand(rules)) <= 5]:
            lot = tuple(range(rules.size))
            for guess in product((0, 1), repeat=len(ties_by_hand(rules))):
                means = means_by_hand(rules, tuple((value, 1) for value in guess))
                self.assertGreaterEqual(max(means), misses_at(rules, lot))
            for drawn in product([(0, 1), (1, 3), (5, 6)], repeat=len(ties_by_hand(rules))):
                self.assertGreaterEqual(max(means_by_hand(rules, drawn)), fraction(mean_at(rules, lot)))

    def test_points_that_closing_misses(self):
        for rules in small_lists() + larger_lists():
            if is_closed_by_hand(rules):
                guesser = Guesser(rules, "closing")
                for lot in lots_by_hand(rules.size)[::1 if rules.size < 4 else 3]:
                    for row in rules.rows[::1 if rules.size < 4 else 5]:
                        misses = guesser.misses(lot, row)
                        read = read_by_hand(row, lot)
                        self.assertLessEqual(set(misses), {(0, 1), (1, 1)})
                        places = [place for place, miss in enumerate(misses) if miss == (1, 1)]
                        self.assertTrue(all(read[place] == 1 for place in places))
                        self.assertTrue(strongly_free_places(seen_by_hand(rules, lot), read, places))

    def test_the_sum_is_the_mean_of_the_list_that_is_seen(self):
        for rules in (SOME, STEPS, full(3), scattered(5, 3)):
            for lot in lots_by_hand(rules.size):
                seen = rules.seen_at(lot)
                means = means_of(seen, best_drawn(seen))
                self.assertEqual(len(best_drawn(seen)), len(ties_of(seen)))
                for row in rules.rows:
                    number = seen.rows.index(read_by_hand(row, lot))
                    misses = Guesser(rules, "drawn").misses(lot, row)
                    self.assertEqual(sum(map(fraction, misses)), fraction(means[number]))
