"""Kinds of lists: rows cut out of points by steps, stretches, boxes, half planes, parities and ands."""

from nextguess.basics import is_an_integer, is_value
from nextguess.errors import InvalidPoints, Undefined
from nextguess.lists import Rules
from nextguess.rows import all_lots, read_at

KINDS = ("steps", "stretches", "boxes", "half planes", "parities", "ands")
LENGTHS = {
    "steps": (1,), "stretches": (1,), "boxes": (1, 2, 3),
    "half planes": (2,), "parities": (1, 2, 3, 4), "ands": (1, 2, 3, 4),
}
OF_VALUES = ("parities", "ands")
MOST_FREE = {"steps": 1, "stretches": 2, "half planes": 3}


def demand_kind(kind):
    """Raise Undefined unless kind is one of the six words."""
    if kind not in KINDS:
        raise Undefined("kind")


def is_point_of(kind, value, length):
    """Tell whether value, whatever it is, is a point of the kind that has so many coordinates."""
    if not isinstance(value, tuple) or len(value) != length:
        return False
    if kind in OF_VALUES:
        return all([is_value(member) for member in value])
    return all([is_an_integer(member) for member in value])


def are_points(kind, value):
    """Tell whether value, whatever it is, is a tuple of points of the kind."""
    demand_kind(kind)
    if not isinstance(value, tuple):
        return False
    return any([all([is_point_of(kind, point, length) for point in value]) for length in LENGTHS[kind]])


def demand_points(kind, points):
    """Raise Undefined or InvalidPoints unless they are points of one of the six kinds."""
    if not are_points(kind, points):
        raise InvalidPoints(points)


def from_each_on(keys):
    """Return the row that has no everywhere, and for each key the row with yes where the key is at least that."""
    return [(0,) * len(keys)] + [tuple([int(key >= least) for key in keys]) for least in keys]


def between_each_two(keys):
    """Return the row that has no everywhere, and for each two keys the row with yes from the one to the other."""
    rows = [tuple([int(a <= key <= b) for key in keys]) for a in keys for b in keys]
    return [(0,) * len(keys)] + rows


def boxes_of(points):
    """Return the list of the ands of a stretch of each coordinate."""
    cut = Rules(len(points), [(1,) * len(points)])
    for column in zip(*points):
        cut = cut.both(Rules(len(points), between_each_two(column)))
    return cut.rows


def keys_along(points, start, end):
    """Return by what points are ordered: first by the side of the line from start to end, then along it.

    So they are ordered by how far they are from the line when it is turned a little.
    """
    x, y = end[0] - start[0], end[1] - start[1]
    return [(x * point[1] - y * point[0], x * point[0] + y * point[1]) for point in points]


def half_planes_of(points):
    """Return all rows that half planes cut, of at least one point."""
    # What a line parts is also parted by two lines that lead from a no-point to a yes-point: the one has
    # yes to the left, the other to the right. And from a point to itself all points are alike.
    return [row for start in points for end in points for row in from_each_on(keys_along(points, start, end))]


def chosen_of(points):
    """Return for each choice of coordinates what the points have there."""
    return [[read_at(point, chosen) for point in points] for chosen in all_lots(len(points[0]))]


def rows_cut(kind, points):
    """Return all rows that the kind cuts, of at least one point."""
    if kind == "steps":
        return from_each_on(points)
    if kind in ("stretches", "boxes"):
        return boxes_of(points)
    if kind == "half planes":
        return half_planes_of(points)
    if kind == "parities":
        return [tuple([sum(values) & 1 for values in read]) for read in chosen_of(points)]
    return [tuple([int(0 not in values) for values in read]) for read in chosen_of(points)]


def rules_cut(kind, points):
    """Return the list of all rows that the kind cuts."""
    demand_points(kind, points)
    # Without points nothing tells how many coordinates there are, and just the empty row is cut.
    return Rules(len(points), rows_cut(kind, points) if len(points) > 0 else [()])


def most_free(kind, c):
    """Return how many points of a lot can be free at most where the kind cuts points of c coordinates."""
    return 2 * c if kind == "boxes" else MOST_FREE.get(kind, c)
