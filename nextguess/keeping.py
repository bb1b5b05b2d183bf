"""Keeping few yes-points of a rule: where a list has the and of all its rules, the rest comes back."""

from nextguess.checks import demand_closed, demand_lot, demand_rule
from nextguess.errors import Undefined
from nextguess.freedom import dimension
from nextguess.rows import all_lots, is_lot, read_at


def with_yes(rules, kept):
    """Return all rules that have yes at all points kept."""
    return [row for row in rules.rows if all([row[point] == 1 for point in kept])]


def and_of(rows, size):
    """Return the row that has yes where all rows have."""
    return tuple([min([row[point] for row in rows]) for point in range(size)])


def rebuilt(rules, kept):
    """Return the and of all rules that have yes at all points kept."""
    demand_closed(rules)
    demand_lot(kept, rules.size)
    rows = with_yes(rules, kept)
    if len(rows) == 0:
        raise Undefined("rules")
    return and_of(rows, rules.size)


def demand_keeping(rules, row, lot):
    """Raise what keeps and fewest_kept demand of their arguments."""
    demand_closed(rules)
    demand_rule(rules, row)
    demand_lot(lot, rules.size)


def comes_back(rules, row, lot, kept):
    """Tell whether the points kept, at which row has yes, bring back row's values at the lot."""
    return read_at(and_of(with_yes(rules, kept), rules.size), lot) == read_at(row, lot)


def keeps(rules, row, lot, kept):
    """Tell whether kept, whatever it is, is a lot of row's yes-points in lot that brings back row's values there."""
    demand_keeping(rules, row, lot)
    if not is_lot(kept, rules.size) or not all([point in lot and row[point] == 1 for point in kept]):
        return False
    return comes_back(rules, row, lot, kept)


def fewest_kept(rules, row, lot):
    """Return all lots of the fewest points that keeps takes as kept, ascending."""
    demand_keeping(rules, row, lot)
    points = [point for point in lot if row[point] == 1]
    lots = [read_at(points, places) for places in all_lots(len(points))]
    # All the yes-points together always bring the rest back, so some lot is found.
    found = [kept for kept in lots if comes_back(rules, row, lot, kept)]
    return tuple([kept for kept in found if len(kept) == len(found[0])])


def most_kept(rules):
    """Return the greatest number of points that some rule and lot need kept."""
    demand_closed(rules)
    # A lot of fewest points is free; and of a free lot, the rule with yes at all of it needs all.
    return dimension(rules)
