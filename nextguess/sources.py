"""Sources by which points are drawn, and the chances of a wrong guess behind what they showed."""

from nextguess.basics import power
from nextguess.checks import demand_from_one, demand_lot, demand_number, demand_rule
from nextguess.errors import InvalidLot, InvalidShare, InvalidSource
from nextguess.lotwise import most_mean
from nextguess.rows import all_lots, is_lot, lots_to, read_at
from nextguess.shares import are_one_together, is_below, is_share, over, over_common
from nextguess.shares import rounded_up, share_of, times, total_of


def is_source(value, size):
    """Tell whether value, whatever it is, is a source of so many points."""
    return are_one_together(value, size)


def demand_source(source, size):
    """Raise InvalidSource unless source is a source of so many points."""
    if not is_source(source, size):
        raise InvalidSource(source)


def weight_of_draws(weights, m):
    """Return the weight of all m draws of points so weighted in which each of them is drawn."""
    total = 0
    for lot in all_lots(len(weights)):
        # Draws that lack a point are taken off, so those that lack two must be put back, and so on.
        drawn = power(sum(read_at(weights, lot)), m)
        total += drawn if (len(weights) - len(lot)) % 2 == 0 else -drawn
    return total


def chance_of_just(source, lot, m):
    """Return the chance that m drawn points are just those of the lot."""
    weights, common = over_common(source)
    return share_of(weight_of_draws(read_at(weights, lot), m), power(common, m))


def chance_of_lot(source, lot, m):
    """Return the chance that m drawn points are just those of the lot, each at least once."""
    size = len(source) if isinstance(source, tuple) else 0
    demand_source(source, size)
    demand_lot(lot, size)
    demand_number(m)
    return chance_of_just(source, lot, m)


def miss_chance(guesser, row, source, m):
    """Return the chance that the guess at the m-th drawn point is wrong, those ahead being shown."""
    rules = guesser.rules
    demand_rule(rules, row)
    demand_source(source, rules.size)
    demand_from_one(m)
    chances = []
    for lot in lots_to(rules.size, m):
        misses = guesser.misses(lot, row)
        for place, point in enumerate(lot):
            ahead = chance_of_just(source, lot[:place] + lot[place + 1:], m - 1)
            chances.append(times(times(ahead, source[point]), misses[place]))
    return total_of(chances)


def last_miss_chance(guesser, row, lot):
    """Return the chance that the guess at the last point of the shuffled lot is wrong."""
    demand_rule(guesser.rules, row)
    if not is_lot(lot, guesser.rules.size) or len(lot) == 0:
        raise InvalidLot(lot)
    return over(total_of(guesser.misses(lot, row)), (len(lot), 1))


def miss_bound(rules, m):
    """Return most_mean over m: what the chance of a miss of "drawn" keeps to."""
    demand_from_one(m)
    return over(most_mean(rules, m), (m, 1))


def examples_enough(rules, chance):
    """Return the least m from which on miss_bound is at most chance."""
    if not is_share(chance) or chance[0] <= 0:
        raise InvalidShare(chance)
    # From the size on most_mean stays as it is, so there the bound only falls.
    m = max(1, rules.size, rounded_up(over(most_mean(rules, rules.size), chance)))
    while m > 1 and not is_below(chance, miss_bound(rules, m - 1)):
        m = m - 1
    return m


def unavoidable(d, m):
    """Return half of 1 - 1 / d to the power m - 1."""
    demand_from_one(d)
    demand_from_one(m)
    return share_of(power(d - 1, m - 1), 2 * power(d, m - 1))
