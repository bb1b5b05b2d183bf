"""Pushing a list down: yes becomes no wherever that makes no rule twice."""

from nextguess.checks import demand_point
from nextguess.lists import Rules
from nextguess.rows import with_value


def pushed_row(rules, row, point):
    """Return what a push at the point makes of a rule."""
    lower = with_value(row, point, 0)
    return row if rules.has(lower) else lower


def pushed_at(rules, point):
    """Return the list pushed at the point."""
    demand_point(point, rules.size)
    return Rules(rules.size, [pushed_row(rules, row, point) for row in rules.rows])


def is_down(rules):
    """Tell whether with each rule every row with fewer yes-points is a rule."""
    # One point less at a time reaches every such row.
    return all([rules.has(with_value(row, point, 0)) for row in rules.rows for point in range(rules.size)])


def pushed_down(rules):
    """Return the list pushed at each point in order, once each."""
    pushed = rules
    for point in range(rules.size):
        pushed = pushed_at(pushed, point)
    return pushed
