"""Points of the six kinds, and a slow search of its own for the rows that a kind cuts."""

from itertools import combinations, product

LENGTHS = {
    "steps": (1,), "stretches": (1,), "boxes": (1, 2, 3), "half planes": (2,), "parities": (1, 2, 3, 4), "ands": (1, 2, 3, 4),
}
KINDS = tuple(LENGTHS)
OF_VALUES = ("parities", "ands")
NO_KINDS = [
    "", "step", "Steps", "steps ", "half plane", "half  planes", "halfplanes", "stretch", "box", "parity", "and", "dimension",
    ("steps",), ["steps"], [["steps"]], ("half", "planes"),
]


def choices_of(kind, points):
    """The rows that come of all choices of the kind, as many as can make a difference."""
    columns = list(zip(*points))
    if kind == "steps":
        limits = columns[0] + (max(columns[0]) + 1,)
        return [tuple(int(x >= t) for x in columns[0]) for t in limits]
    if kind in ("stretches", "boxes"):
        ends = [list(product(column + (min(column) - 1,), repeat=2)) for column in columns]
        return [
            tuple(int(all(a <= x <= b for x, (a, b) in zip(point, box))) for point in points)
            for box in product(*[sorted(set(pairs)) for pairs in ends])
        ]
    if kind == "half planes":
        return half_planes(points)
    chosen = [lot for many in range(len(columns) + 1) for lot in combinations(range(len(columns)), many)]
    if kind == "parities":
        return [tuple(sum(point[k] for k in lot) % 2 for point in points) for lot in chosen]
    return [tuple(int(all(point[k] == 1 for k in lot)) for point in points) for lot in chosen]


def directions(points):
    """Directions (a, b) among which there is one for every order in which half planes can meet the points."""
    if all(abs(x) <= 1 and abs(y) <= 1 for x, y in points):
        # Points so near one another need no steeper directions than these.
        return list(product(range(-4, 5), repeat=2))
    steps = {(p[0] - q[0], p[1] - q[1]) for p in points for q in points}
    found = steps | {(-y, x) for x, y in steps}
    return sorted(found | {(a + c, b + d) for a, b in found for c, d in found})


def half_planes(points):
    rows = []
    for a, b in directions(points):
        heights = [a * x + b * y for x, y in points]
        rows += [tuple(int(height >= t) for height in heights) for t in set(heights) | {max(heights) + 1}]
    return rows


def cut_by_hand(kind, points):
    """All rows that the kind cuts, ascending."""
    return sorted(set(choices_of(kind, points))) if points else [()]


def plane_points():
    """Points of the plane: small and great ones, below 0, alike ones, in one line, one within others, crossing."""
    return [
        ((0, 0),), ((5, -3), (5, -3)), ((0, 0), (1, 1)), ((0, 0), (1, 0), (2, 0)), ((0, 0), (2, 4), (1, 2)),
        ((0, 0), (0, 5), (0, 2), (0, 2)), ((0, 0), (1, 0), (0, 1)), ((0, 0), (1, 0), (0, 1), (1, 1)), ((0, 0), (3, 0), (0, 3), (1, 1)),
        ((-1, -1), (1, 1), (-1, 1), (1, -1), (0, 0)), ((0, 0), (0, 1), (1, 0), (1, 1), (0, 0), (1, 1)),
        ((0, 0), (4, 0), (0, 4), (1, 1), (2, 1), (1, 2)), ((0, 0), (1, 2), (2, 4), (3, 6), (4, 8), (5, 10)),
        ((0, 0), (1, 1), (2, 4), (3, 9), (4, 16), (5, 25)), ((-3, 0), (3, 0), (0, -3), (0, 3), (1, 1), (-1, -1)),
        ((-9999, -9999), (9999, 9999), (-9999, 9999), (9999, -9999), (0, 0), (1, 0)),
        ((9999, 9998), (9998, 9997), (-9999, -9998), (-9998, -9997), (0, 1), (1, 0)),
        ((-9999, 9999), (9999, -9999), (9998, -9999), (-9998, 9999), (0, 0), (0, 0)),
        ((1234, -9876), (-4321, 5555), (9999, 1), (-1, -9999), (7777, 7777), (-8888, -2222)),
    ]


def line_points():
    """Points of one coordinate."""
    return [
        ((0,),), ((7,), (7,)), ((1,), (2,)), ((2,), (1,)), ((1,), (2,), (3,), (4,)), ((3,), (-1,), (3,), (0,), (-1,)),
        ((-9999,), (9999,), (0,), (-1,), (1,), (9998,)), ((5,), (4,), (3,), (2,), (1,), (0,)), ((2,),) * 6,
        ((0,), (0,), (1,), (1,), (2,), (2,)),
    ]


def space_points():
    """Points of three coordinates."""
    return [
        ((0, 0, 0),), ((1, 2, 3), (1, 2, 3)), ((0, 0, 0), (1, 1, 1), (0, 1, 0), (1, 0, 1)),
        ((1, 0, 0), (-1, 0, 0), (0, 1, 0), (0, -1, 0), (0, 0, 1), (0, 0, -1)),
        ((9999, -9999, 0), (-9999, 9999, 0), (0, 0, 0), (9999, 9999, 9999), (1, 1, 1), (-1, 0, 1)),
    ]


def bit_points(c):
    """Points of c coordinates that are values."""
    every = list(product((0, 1), repeat=c))
    found = [(point,) for point in every[::2]] + [(point,) * 2 for point in every[1::2]]
    found += [tuple(every[:6]), tuple(every[-6:]), tuple(every[::-1][:6]), tuple((every * 6)[:6]), tuple(every[k * 5 % len(every)] for k in range(6))]
    found += [tuple(every[(k * 7 + j) % len(every)] for k in range(4)) for j in range(3)]
    for value in (0, 1):
        found.append(tuple(tuple(value if k == j else 1 - value for k in range(c)) for j in range(c)) + ((1,) * c,))
    return found


def points_of(kind):
    """Some points of a kind, none of them first."""
    if kind in ("steps", "stretches"):
        return [()] + line_points()
    if kind == "boxes":
        return [()] + line_points() + plane_points() + space_points()
    if kind == "half planes":
        return [()] + plane_points()
    return [()] + [points for c in LENGTHS[kind] for points in bit_points(c)]


def near_points(kind):
    """Values that are nearly points of a kind."""
    right = points_of(kind)[-1]
    c = len(right[0])
    found = [None, True, 0, "", "01", [], [()], ((),), ((), ()), (0,), (1, 0), ("0",), (None,), list(right), right + ((),), right + (0,), (right,)]
    found += [right + (right[0] + (0,),), right + (right[0][1:],), (right[0] + (1,),) + right[1:], [list(point) for point in right]]
    found += [(list(right[0]),) + right[1:], right[:-1] + (list(right[-1]),), ((1,) * (LENGTHS[kind][-1] + 1),), ((0, 1), (0,)), ((0,), (0, 1))]
    for wrong in (True, False, None, "1", (1,), [1], ((),)):
        found += [((wrong,) + (1,) * (c - 1),), right[:-1] + (right[-1][:-1] + (wrong,),)]
    if kind in OF_VALUES:
        found += [((2,) * c,), ((-1,) + (0,) * (c - 1),), right[:-1] + (right[-1][:-1] + (2,),), ((10 ** 4,) * c,)]
    return found
