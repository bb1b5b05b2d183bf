"""What DOC.md says of ties, guesses and chances, counted out with fractions."""

from fractions import Fraction
from functools import cache
from itertools import combinations
from math import gcd


def pair(number):
    """The share that a fraction is."""
    return (number.numerator, number.denominator)


def fraction(share):
    """The fraction that a share is."""
    return Fraction(*share)


def is_share_by_hand(value):
    if type(value) is not tuple or len(value) != 2 or type(value[0]) is not int or type(value[1]) is not int:
        return False
    return value[1] > 0 and gcd(*value) == 1


def is_chance_by_hand(value):
    return is_share_by_hand(value) and 0 <= fraction(value) <= 1


def figures(share):
    """The greatest number of figures above and below."""
    return max(len(str(abs(number))) for number in share)


def ties_by_hand(rules):
    return ties_of_rows(rules.rows)


@cache
def ties_of_rows(rows):
    ties = []
    for i, j in combinations(range(len(rows)), 2):
        differ = [point for point, (a, b) in enumerate(zip(rows[i], rows[j])) if a != b]
        if len(differ) == 1:
            ties.append((i, j, differ[0]))
    return tuple(sorted(ties))


def is_guess_by_hand(rules, value):
    if type(value) is not tuple or len(value) != len(ties_by_hand(rules)):
        return False
    return all(type(member) is int and member in (0, 1) for member in value)


def is_drawn_by_hand(rules, value):
    if type(value) is not tuple or len(value) != len(ties_by_hand(rules)):
        return False
    return all(is_chance_by_hand(member) for member in value)


def is_part_by_hand(rules, value):
    if type(value) is not tuple or len(value) == 0 or not all(type(member) is int for member in value):
        return False
    return list(value) == sorted(set(value)) and 0 <= value[0] and value[-1] < len(rules)


def means_by_hand(rules, drawn, weights=None):
    """For each rule the sum, over its ties, of the chance that the other value is guessed."""
    means = []
    for number, row in enumerate(rules.rows):
        mean = Fraction(0)
        for (i, j, point), yes in zip(ties_by_hand(rules), drawn):
            if number in (i, j):
                weight = 1 if weights is None else fraction(weights[point])
                mean += weight * (fraction(yes) if row[point] == 0 else 1 - fraction(yes))
        means.append(mean)
    return means


def within_by_hand(rules, part, weights=None):
    """The ties within a part, each counted as its point's weight."""
    found = [point for i, j, point in ties_by_hand(rules) if i in part and j in part]
    return len(found) if weights is None else sum([fraction(weights[point]) for point in found], Fraction(0))


def densest_by_hand(rules, weights=None):
    """The greatest, over all parts, of the ties within over the number of rules; of at most 16 rules."""
    return densest_of_rows(rules.rows, weights)


@cache
def densest_of_rows(rows, weights):
    near = [[] for _ in rows]
    for i, j, point in ties_of_rows(rows):
        near[j].append((i, 1 if weights is None else fraction(weights[point])))
    within = [0] * 2 ** len(rows)
    above, below = 0, 1
    for part in range(1, 2 ** len(rows)):
        top = part.bit_length() - 1
        rest = part - (1 << top)
        within[part] = within[rest] + sum([weight for i, weight in near[top] if rest >> i & 1])
        if within[part] * below > above * part.bit_count():
            above, below = within[part], part.bit_count()
    return Fraction(above) / below


def strongly_free_places(rows, row, places):
    """Whether all rows made of a row and any values at the places are among the rows."""
    for many in range(len(places) + 1):
        for chosen in combinations(places, many):
            if tuple(1 - value if k in chosen else value for k, value in enumerate(row)) not in rows:
                return False
    return True


def fitting_by_hand(rules, shown):
    return [row for row in rules.rows if all(row[point] == value for point, value in shown)]


def read_by_hand(row, lot):
    return tuple(row[point] for point in lot)


def are_one_by_hand(value, many):
    """Whether value is a tuple of so many chances that are together 1."""
    if type(value) is not tuple or len(value) != many or not all(is_chance_by_hand(member) for member in value):
        return False
    return sum(map(fraction, value)) == 1


def is_closed_by_hand(rules):
    """Whether the and of each two rules is a rule."""
    rows = set(rules.rows)
    return all(tuple(a & b for a, b in zip(one, other)) in rows for one in rows for other in rows)


def kinds_of(rules):
    """The kinds of which a list has a guesser."""
    return [kind for kind in ("best", "drawn", "closing", "most") if kind != "closing" or is_closed_by_hand(rules)]
