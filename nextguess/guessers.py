"""Guessers: what is guessed at a point when the answers at other points are shown."""

from nextguess.basics import is_point
from nextguess.checks import demand_closed, demand_lot, demand_rule
from nextguess.drawn import as_drawn, best_drawn
from nextguess.errors import InvalidPoint, InvalidRules, InvalidShown, Undefined
from nextguess.guesses import best_guess
from nextguess.lists import Rules
from nextguess.rows import read_at, with_value
from nextguess.shares import less
from nextguess.webs import ties_of

KINDS = ("best", "drawn", "closing", "most")


def by_votes(rules, lot, seen):
    """Return for each tie the value that more of the rules read there, an even chance if as many."""
    votes = {}
    for row in rules.rows:
        read = read_at(row, lot)
        votes[read] = votes.get(read, 0) + 1
    chances = []
    for i, j, _ in ties_of(seen):
        no, yes = votes[seen.rows[i]], votes[seen.rows[j]]
        chances.append((1, 2) if no == yes else (int(no < yes), 1))
    return chances


def drawn_by(guesser, lot, seen):
    """Return the chance of yes at each tie of what the rules read at the lot."""
    if guesser.kind == "best":
        return as_drawn(best_guess(seen))
    if guesser.kind == "drawn":
        return best_drawn(seen)
    if guesser.kind == "most":
        return by_votes(guesser.rules, lot, seen)
    # Where rules that fit have yes and no, their and has no.
    return [(0, 1)] * len(ties_of(seen))


def told_by(guesser, lot):
    """Return the chance of yes at each tie at the lot, by the tie's lesser row and its place."""
    seen = guesser.rules.seen_at(lot)
    chances = drawn_by(guesser, lot, seen)
    return {(seen.rows[i], place): yes for (i, _, place), yes in zip(ties_of(seen), chances)}


def miss_at(told, read, place):
    """Return the chance that the guess at a place is not what is read there, all else being shown."""
    # Without a tie all that fits has what is read.
    yes = told.get((with_value(read, place, 0), place), (read[place], 1))
    return yes if read[place] == 0 else less((1, 1), yes)


class Guesser:
    """Whoever guesses by a list of rules in one of four ways."""

    def __init__(self, rules, kind):
        if not isinstance(rules, Rules):
            raise InvalidRules(rules)
        if kind not in KINDS:
            raise Undefined("kind")
        if kind == "closing":
            demand_closed(rules)
        self.rules = rules
        self.kind = kind

    def __eq__(self, other):
        return isinstance(other, Guesser) and self.rules == other.rules and self.kind == other.kind

    def yes(self, shown, point):
        """Return the chance with which yes is guessed at the point."""
        if not self.rules.is_shown(shown):
            raise InvalidShown(shown)
        if not is_point(point, self.rules.size) or point in [known for known, _ in shown]:
            raise InvalidPoint(point)
        values = [row[point] for row in self.rules.fitting(shown).rows]
        if min(values) == max(values):
            return (values[0], 1)
        lower = sorted(shown + ((point, 0),))
        lot = tuple([known for known, _ in lower])
        return told_by(self, lot)[(tuple([value for _, value in lower]), lot.index(point))]

    def misses(self, lot, row):
        """Return for each point of the lot the chance of a wrong guess there, all others being shown."""
        demand_lot(lot, self.rules.size)
        demand_rule(self.rules, row)
        told = told_by(self, lot)
        read = read_at(row, lot)
        return tuple([miss_at(told, read, place) for place in range(len(lot))])
