"""Ties: pairs of rules that differ at one point alone."""

from nextguess.errors import InvalidPart
from nextguess.rows import is_lot, with_value


def ties_of(rules):
    """Return all ties of the list, ascending."""
    numbers = {row: number for number, row in enumerate(rules.rows)}
    ties = []
    for i, row in enumerate(rules.rows):
        for point in range(rules.size):
            # The lesser rule of a tie has no at its point, so each tie is met once.
            higher = with_value(row, point, 1)
            if row[point] == 0 and higher in numbers:
                ties.append((i, numbers[higher], point))
    return tuple(sorted(ties))


def is_part(rules, value):
    """Tell whether value, whatever it is, is a part of the list."""
    return is_lot(value, len(rules)) and len(value) > 0


def inside(ties, part):
    """Return the numbers of the ties that have both rules in the part."""
    chosen = {number: True for number in part}
    return [k for k, (i, j, _) in enumerate(ties) if i in chosen and j in chosen]


def ties_within(rules, part):
    """Return how many ties have both rules in the part."""
    if not is_part(rules, part):
        raise InvalidPart(part)
    return len(inside(ties_of(rules), part))
