"""Whoever follows a rule by what is shown of it: how often that can be wrong at what is hidden."""

from math import comb

from nextguess.basics import is_number
from nextguess.checks import demand_from_one, demand_lot, demand_rule
from nextguess.errors import InvalidLot, InvalidNumber
from nextguess.rows import is_lot, lots_of, read_at
from nextguess.shares import share_of


def are_among(points, lot):
    """Tell whether all points are points of the lot."""
    return all([point in lot for point in points])


def mistakes(rules, row, lot):
    """Return for each row that the list reads at the lot the points at which it has not row's value."""
    read = read_at(row, lot)
    seen = rules.seen_at(lot).rows
    return [[point for point, mine, its in zip(lot, read, other) if mine != its] for other in seen]


def most_hidden(found, hidden):
    """Return the greatest number of mistakes of a rule of which all mistakes are hidden."""
    # A mistake at a point that is shown would tell that the rule is not row.
    return max([len(points) for points in found if are_among(points, hidden)])


def worst_hidden(rules, row, lot, hidden):
    """Return at how many hidden points of the lot a rule that fits all others can be wrong."""
    demand_rule(rules, row)
    demand_lot(lot, rules.size)
    if not is_lot(hidden, rules.size) or not are_among(hidden, lot):
        raise InvalidLot(hidden)
    return most_hidden(mistakes(rules, row, lot), hidden)


def demand_hiding(rules, row, lot, s, r):
    """Raise what chance_of_wrong and wrong_bound demand of their arguments."""
    demand_rule(rules, row)
    demand_lot(lot, rules.size)
    if not is_number(s) or s > len(lot):
        raise InvalidNumber(s)
    demand_from_one(r)


def chance_of_wrong(rules, row, lot, s, r):
    """Return the chance that, s points of the lot being hidden, worst_hidden is at least r."""
    demand_hiding(rules, row, lot, s, r)
    found = mistakes(rules, row, lot)
    choices = [read_at(lot, places) for places in lots_of(len(lot), s)]
    bad = [hidden for hidden in choices if most_hidden(found, hidden) >= r]
    return share_of(len(bad), len(choices))


def choices_hiding(n, s, t):
    """Return how many choices of s of n points have t points named ahead among them."""
    return comb(n - t, s - t) if t <= s else 0


def wrong_bound(rules, row, lot, s, r):
    """Return the sum, over the rows read at the lot with r mistakes or more, of the chance that all are hidden."""
    demand_hiding(rules, row, lot, s, r)
    counts = [len(points) for points in mistakes(rules, row, lot)]
    bad = sum([choices_hiding(len(lot), s, t) for t in counts if t >= r])
    return share_of(bad, comb(len(lot), s))
