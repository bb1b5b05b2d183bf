"""Reasons that a kind does not cut a row, found and judged."""

from nextguess.basics import is_number, is_point
from nextguess.checks import demand_row
from nextguess.errors import Undefined
from nextguess.kinds import demand_points
from nextguess.rows import all_lots, is_lot, lots_of, read_at


def points_with(row, value):
    """Return the lot of the points at which the row has this value."""
    return tuple([point for point, its in enumerate(row) if its == value])


def has_at(row, point, value):
    """Tell whether point, whatever it is, is one at which the row has this value."""
    return is_point(point, len(row)) and row[point] == value


def is_lot_of_yes(row, lot):
    """Tell whether lot, whatever it is, is a lot of points at which the row has yes."""
    return is_lot(lot, len(row)) and all([row[point] == 1 for point in lot])


def are_in_order(points, row, members):
    """Tell whether a yes-point and a no-point are told, the yes-point not behind the other."""
    i, j = members
    return has_at(row, i, 1) and has_at(row, j, 0) and points[i] <= points[j]


def is_between(points, row, members):
    """Tell whether a no-point is told between two yes-points."""
    i, j, k = members
    if not has_at(row, i, 1) or not has_at(row, j, 0) or not has_at(row, k, 1):
        return False
    return points[i] <= points[j] <= points[k]


def is_within(points, row, members):
    """Tell whether a no-point is told in the box around yes-points."""
    lot, j = members
    if not is_lot_of_yes(row, lot) or len(lot) == 0 or not has_at(row, j, 0):
        return False
    return all([min(read_at(column, lot)) <= column[j] <= max(read_at(column, lot)) for column in zip(*points)])


def do_meet(points, row, members):
    """Tell whether weights are told with which yes-points and no-points have the same middle."""
    weights = members[0]
    if not isinstance(weights, tuple) or len(weights) != len(row) or not all([is_number(member) for member in weights]):
        return False
    signed = [weight if value == 1 else -weight for weight, value in zip(weights, row)]
    if sum(weights) == 0 or sum(signed) != 0:
        return False
    return all([sum([weight * x for weight, x in zip(signed, column)]) == 0 for column in zip(*points)])


def is_even_sum(points, row, members):
    """Tell whether a lot is told in which each coordinate is 1 an even number of times, yes an odd number."""
    lot = members[0]
    if not is_lot(lot, len(row)) or sum(read_at(row, lot)) % 2 == 0:
        return False
    return all([sum(read_at(column, lot)) % 2 == 0 for column in zip(*points)])


def is_covered(points, row, members):
    """Tell whether a no-point is told that has each coordinate that all of some yes-points have."""
    lot, j = members
    if not is_lot_of_yes(row, lot) or not has_at(row, j, 0):
        return False
    return all([column[j] == 1 or 0 in read_at(column, lot) for column in zip(*points)])


def single_lots(points, row):
    """Return all lots of points."""
    return [(lot,) for lot in all_lots(len(row))]


def orders(points, row):
    """Return each yes-point with each no-point."""
    return [(i, j) for i in points_with(row, 1) for j in points_with(row, 0)]


def betweens(points, row):
    """Return each no-point with each two yes-points."""
    yes = points_with(row, 1)
    return [(i, j, k) for i in yes for j in points_with(row, 0) for k in yes]


def from_all_yes(points, row):
    """Return all yes-points together with each no-point: what follows from some follows from all."""
    return [(points_with(row, 1), j) for j in points_with(row, 0)]


def gaps_of(numbers):
    """Return weights with which three numbers balance, the middle one against the others."""
    x, y, z = numbers
    return (abs(y - z), abs(z - x), abs(x - y))


def doubled_area(p, q, r):
    """Return twice the area of the triangle of three points."""
    return abs((q[0] - p[0]) * (r[1] - p[1]) - (q[1] - p[1]) * (r[0] - p[0]))


def areas_of(points):
    """Return weights with which four points balance: for each the triangle of the others."""
    p, q, r, s = points
    return (doubled_area(q, r, s), doubled_area(p, r, s), doubled_area(p, q, s), doubled_area(p, q, r))


def weights_at(many, lot, weights):
    """Return the tuple of so many weights that has these at the lot and 0 at all other points."""
    known = {point: weight for point, weight in zip(lot, weights)}
    return tuple([known.get(point, 0) for point in range(many)])


def meetings(points, row):
    """Return weights of which some make yes and no meet if any do."""
    many = len(points)
    # Where yes and no meet in the plane, they do so in two, three or four of the points.
    found = [(lot, (1, 1)) for lot in lots_of(many, 2)]
    found += [(lot, gaps_of(read_at(column, lot))) for lot in lots_of(many, 3) for column in zip(*points)]
    found += [(lot, areas_of(read_at(points, lot))) for lot in lots_of(many, 4)]
    return [(weights_at(many, lot, weights),) for lot, weights in found]


WORDS = {
    "steps": "order", "stretches": "between", "boxes": "within",
    "half planes": "meet", "parities": "sum", "ands": "covered",
}
SIZES = {"steps": 3, "stretches": 4, "boxes": 3, "half planes": 2, "parities": 2, "ands": 3}
JUDGES = {
    "steps": are_in_order, "stretches": is_between, "boxes": is_within,
    "half planes": do_meet, "parities": is_even_sum, "ands": is_covered,
}
CANDIDATES = {
    "steps": orders, "stretches": betweens, "boxes": from_all_yes,
    "half planes": meetings, "parities": single_lots, "ands": from_all_yes,
}


def is_reason(kind, points, row, value):
    """Tell whether value, whatever it is, is a reason that the kind does not cut the row."""
    if not isinstance(value, tuple) or len(value) != SIZES[kind] or value[0] != WORDS[kind]:
        return False
    judge = JUDGES[kind]
    return judge(points, row, value[1:])


def demand_cutting(kind, points, row):
    """Raise what bar_for and bar_holds demand of their arguments."""
    demand_points(kind, points)
    demand_row(row, len(points))


def bar_for(kind, points, row):
    """Return a reason that the kind does not cut the row."""
    demand_cutting(kind, points, row)
    candidates = CANDIDATES[kind]
    for members in candidates(points, row):
        reason = (WORDS[kind],) + members
        if is_reason(kind, points, row, reason):
            return reason
    raise Undefined("cut")


def bar_holds(kind, points, row, reason):
    """Tell whether reason, whatever it is, is a reason that the kind does not cut the row."""
    demand_cutting(kind, points, row)
    return is_reason(kind, points, row, reason)
