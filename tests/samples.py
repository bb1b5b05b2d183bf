"""Values and lists that the tests share, and plain words of DOC.md written out."""

from fractions import Fraction
from itertools import combinations, product

from nextguess.desk import Desk
from nextguess.errors import InvalidNumber
from nextguess.guessers import Guesser
from nextguess.lists import Rules

NO_CHANCES = [
    (2, 4), (0, 2), (2, 2), (0, 0), (1, 0), (0, -1), (-1, -1), (1, -2), (3, 2), (2, 1), (-1, 2), (-1, 1), (1,), (1, 2, 3),
    (), [1, 2], (True, 1), (1, True), (False, 1), (True, 2), 0, 1, True, None, "", "1/2", ("1", "2"), (None, 1), ((1, 2), 1),
    (1, (2,)), 10 ** 12, Rules(0, [()]),
]

# A source of 6 points, of 4 figures: over one integer its chances need 12 figures.
UNEVEN = ((1106, 9991), (1138, 9797), (1535, 8989), (1213, 9523), (1977, 8453), (1962, 8137))


def nested(depth, make):
    """A value nested so deep, each layer made by make of one member."""
    value = 1
    for _ in range(depth):
        value = make([value])
    return value


def odd_values():
    """Values of every kind that DOC.md counts as any value at all, none a row, lot or share."""
    return [
        None, True, False, 0, 1, -1, 2, 10 ** 12, "", "0", "01", "lot", "dimension",
        [], [0], [1], [0, 1], [(0, 1)], [()], [[]], (None,), ("",), ("0", "1"), ((),), ([],), ((0,),),
        (True,), (False,), (True, False), (0, True), (False, 1), (2, False), (-1,), (-1, 1), (0, -1), (0, 0), (2, 2), (0, None),
        (0, [1]), ((0, 1), (1, 0)), ([0], [1]), (2, 1), (1, 0, 0, 0, 0, 0, 0, 0, 0, 0, 0),
        Rules(1, [(0,)]), Rules(0, [()]), (Rules(1, [(0,)]),), InvalidNumber(0), (InvalidNumber(0), 1),
        Guesser(Rules(1, [(1,)]), "most"), Desk(Rules(1, [(0,)])), (0, Desk(Rules(0, [()]))),
        nested(30, list), nested(30, tuple), nested(40, tuple),
    ]


def rows_by_hand(size):
    """All rows of so many values, ascending."""
    return list(product((0, 1), repeat=size))


def lots_by_hand(size):
    """All lots of points below size, those of fewer points ahead."""
    return [lot for many in range(size + 1) for lot in combinations(range(size), many)]


def seen_by_hand(rules, lot):
    """What the rules read at a lot, ascending."""
    return tuple(sorted({tuple(row[point] for point in lot) for row in rules.rows}))


def no_lots(size):
    """Values that are no lot of points below a size, at least 2."""
    wrong = [
        [0], [], (0, size), (size,), (size - 1, 0), (1, 1), (-1, 0), (0, True), (False, 1), ("0",), (0, None), None, "0", 0,
        tuple(range(size + 1)),
    ]
    right = lots_by_hand(size)
    return [lot for lot in odd_values() + wrong if lot not in right or any(type(point) is not int for point in lot)]


def exchanged_at(value, place, members):
    """The tuple with these members in place of the one at a place."""
    return value[:place] + members + value[place + 1:]


def spoilt(value):
    """What comes when a value made of tuples, integers and words is changed at one place."""
    if type(value) is int:
        return [value + 1, value - 1, bool(value), not value, None, str(value), (value,), [value], 10 ** 12]
    if type(value) is str:
        other = "mean" if value == "misses" else "misses"
        return ["", value + " ", value[:-1], value.upper(), other, None, 0, (value,), [value]]
    found = [list(value), (value,), value + (None,), value + ((),), (), None, True, 0, "", Rules(0, [()])]
    for place, member in enumerate(value):
        found += [exchanged_at(value, place, (other,)) for other in spoilt(member)]
        found += [exchanged_at(value, place, ()), exchanged_at(value, place, (member, member))]
    for place in range(1, len(value)):
        found.append(value[:place - 1] + (value[place], value[place - 1]) + value[place + 1:])
    return found


def small_lists():
    """Every list of up to 3 points."""
    lists = []
    for size in range(4):
        rows = rows_by_hand(size)
        for chosen in range(1, 2 ** len(rows)):
            lists.append(Rules(size, [row for k, row in enumerate(rows) if chosen >> k & 1]))
    return lists


def scattered(size, step, start=0):
    """A list of so many points that takes every so manyth row from a start on."""
    rows = rows_by_hand(size)
    return Rules(size, [rows[(start + k * step) % len(rows)] for k in range(max(1, len(rows) // 2 - step))])


def full(size):
    """The list of all rows."""
    return Rules(size, rows_by_hand(size))


def larger_lists():
    """Some lists of 4 to 6 points, of few, some and many rules."""
    stretches = [tuple(int(a <= k < b) for k in range(5)) for a in range(6) for b in range(a, 6)]
    steps = [tuple(int(k >= t) for k in range(6)) for t in range(7)]
    parities = [tuple(sum(a & b for a, b in zip(p, q)) % 2 for q in rows_by_hand(2)) for p in rows_by_hand(2)]
    return [
        Rules(5, stretches), Rules(6, steps), Rules(4, parities), full(4), full(6),
        Rules(4, [(0, 1, 1, 0)]), Rules(5, [(0, 0, 0, 0, 0), (1, 1, 1, 1, 1)]),
        scattered(4, 3), scattered(5, 7, 2), scattered(5, 3), scattered(6, 11, 5), scattered(6, 5),
        Rules(6, [row for row in rows_by_hand(6) if sum(row) <= 3]),
        Rules(6, [row for row in rows_by_hand(6) if sum(row) % 2 == 0]),
        Rules(6, [row for row in rows_by_hand(6) if row != (1, 0, 1, 0, 1, 0)]),
    ]


def largest_lists():
    """Some lists of 8 points."""
    return [
        full(8), Rules(8, [(0,) * 8]), scattered(8, 5), scattered(8, 37, 3),
        Rules(8, [row for row in rows_by_hand(8) if sum(row) <= 4]),
        Rules(8, [row for row in rows_by_hand(8) if row != (1,) * 8]),
    ]


def sources_of(size):
    """Some sources of so many points, from 1 on: like, unlike and steep chances, and chances that are 0."""
    def parts(*numbers):
        fractions = [Fraction(number, sum(numbers)) for number in numbers]
        return tuple((fraction.numerator, fraction.denominator) for fraction in fractions)

    found = [parts(*[1] * size), parts(*range(1, size + 1)), parts(*[3 ** k for k in range(size)])]
    found += [parts(*[1] + [0] * (size - 1)), parts(*[0] * (size - 1) + [5]), parts(*[9998 - size] + [1] * (size - 1))]
    if size > 1:
        found += [parts(*[0] + [1] * (size - 1)), parts(*[k % 2 for k in range(size)]), parts(*[2] + [1] * (size - 2) + [0])]
    return list(dict.fromkeys(found))


def near_sources(size):
    """Values that are nearly a source of so many points: spoilt at one place, or of another kind or size."""
    found = [(), [], None, True, 0, 1, "", "1", (1,), ((),), ((1, 1), (1, 1)), ((1, 2),), ((1, 3), (1, 3)), (0, 1), (1, 1)]
    found += sources_of(size + 1) + [((3, 2), (-1, 2)) + ((0, 1),) * (size - 2)]
    for source in sources_of(max(1, size))[:3]:
        found += [list(source), source + ((0, 1),), source + ((),), source[1:], source[:-1], (source,)]
        found.append(tuple(list(chance) for chance in source))
        for place in (0, len(source) - 1):
            found += [exchanged_at(source, place, (member,)) for member in NO_CHANCES + [(1, 7919), (0, 1), (1, 1)]]
    return found
