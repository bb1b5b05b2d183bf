"""Misses and means at a lot, and the greatest of them over all lots of so many points."""

from nextguess.checks import demand_number
from nextguess.drawn import least_mean
from nextguess.guesses import least_worst
from nextguess.rows import lots_to
from nextguess.shares import greatest_of


def misses_at(rules, lot):
    """Return least_worst of what the rules read at the lot."""
    return least_worst(rules.seen_at(lot))


def mean_at(rules, lot):
    """Return least_mean of what the rules read at the lot."""
    return least_mean(rules.seen_at(lot))


def most_misses(rules, m):
    """Return the greatest of misses_at over all lots of at most m points."""
    demand_number(m)
    return max([misses_at(rules, lot) for lot in lots_to(rules.size, m)])


def most_mean(rules, m):
    """Return the greatest of mean_at over all lots of at most m points."""
    demand_number(m)
    return greatest_of([mean_at(rules, lot) for lot in lots_to(rules.size, m)])
