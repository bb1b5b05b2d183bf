import random
from itertools import combinations, product

from nextguess.bars import bar_for, bar_holds
from nextguess.errors import InvalidPoints, InvalidRow, Undefined
from nextguess.kinds import rules_cut
from tests.byhand import figures
from tests.cases import Lists
from tests.cuts import KINDS, LENGTHS, NO_KINDS, OF_VALUES, near_points, points_of
from tests.samples import exchanged_at, lots_by_hand, odd_values, rows_by_hand, spoilt

WORDS = {"steps": "order", "stretches": "between", "boxes": "within", "half planes": "meet", "parities": "sum", "ands": "covered"}

# For each kind some points, a row that is not cut, and reasons of it that hold.
HELD = [
    ("steps", ((1,), (2,), (2,)), (1, 0, 1), [("order", 0, 1), ("order", 2, 1)]),
    ("stretches", ((1,), (2,), (3,), (2,)), (1, 0, 1, 1), [
        ("between", 0, 1, 2), ("between", 0, 1, 3), ("between", 3, 1, 3), ("between", 3, 1, 2),
    ]),
    ("boxes", ((0, 0), (2, 2), (1, 1), (0, 2)), (1, 1, 0, 0), [("within", (0, 1), 2), ("within", (0, 1), 3)]),
    ("boxes", ((0,), (2,), (1,), (0,)), (1, 1, 0, 0), [("within", (0, 1), 2), ("within", (0,), 3), ("within", (0, 1), 3)]),
    ("half planes", ((0, 0), (2, 2), (2, 0), (0, 2)), (1, 1, 0, 0), [("meet", (1, 1, 1, 1)), ("meet", (4, 4, 4, 4))]),
    ("half planes", ((0, 0), (3, 0), (1, 0), (0, 0)), (1, 1, 0, 0), [
        ("meet", (2, 1, 3, 0)), ("meet", (1, 0, 0, 1)), ("meet", (3, 1, 3, 1)), ("meet", (10 ** 6 * 2, 10 ** 6, 10 ** 6 * 3, 0)),
    ]),
    ("parities", ((0, 1), (1, 0), (1, 1), (0, 0)), (1, 1, 1, 0), [("sum", (0, 1, 2)), ("sum", (0, 1, 2, 3))]),
    ("parities", ((0, 1), (1, 0), (0, 0), (0, 1)), (1, 1, 1, 0), [("sum", (2,)), ("sum", (0, 3))]),
    ("ands", ((1, 0), (0, 1), (1, 1), (0, 0)), (1, 1, 1, 0), [("covered", (0, 1), 3), ("covered", (0, 1, 2), 3)]),
    ("ands", ((1, 1), (0, 1), (0, 0)), (0, 0, 0), [("covered", (), 0)]),
    ("ands", ((1, 1), (0, 1), (0, 1)), (1, 1, 0), [("covered", (1,), 2), ("covered", (0, 1), 2)]),
]


def is_made_right(value):
    """Whether all within is a tuple, an integer or a word."""
    if type(value) is tuple:
        return all(is_made_right(member) for member in value)
    return type(value) in (int, str)


def holds_by_hand(kind, points, row, reason):
    """What bar_holds is to tell, by the words of DOC.md."""
    if type(reason) is not tuple or not is_made_right(reason) or len(reason) < 2 or reason[0] != WORDS[kind]:
        return False
    numbers = range(len(row))
    rest = reason[1:]
    if kind in ("steps", "stretches"):
        if len(rest) != (2 if kind == "steps" else 3) or any(type(k) is not int or k not in numbers for k in rest):
            return False
        heights = [points[k][0] for k in rest]
        return [row[k] for k in rest] == [1, 0, 1][:len(rest)] and heights == sorted(heights)
    if kind == "half planes":
        return len(rest) == 1 and meets_by_hand(points, row, rest[0])
    lot = rest[0]
    if lot not in lots_by_hand(len(row)):
        return False
    if kind == "parities":
        odd = [k for k, column in enumerate(zip(*points)) if sum(column[p] for p in lot) % 2]
        return len(rest) == 1 and not odd and sum(row[p] for p in lot) % 2 == 1
    if len(rest) != 2 or type(rest[1]) is not int or rest[1] not in numbers or row[rest[1]] != 0 or any(row[p] == 0 for p in lot):
        return False
    for k, x in enumerate(points[rest[1]]):
        there = [points[p][k] for p in lot]
        if kind == "boxes" and not (there and min(there) <= x <= max(there)):
            return False
        if kind == "ands" and all(there) and x == 0:
            return False
    return True


def meets_by_hand(points, row, weights):
    if type(weights) is not tuple or len(weights) != len(row) or any(type(w) is not int or w < 0 for w in weights):
        return False
    sums = []
    for value in (0, 1):
        mine = [(w, point) for w, point, its in zip(weights, points, row) if its == value]
        sums.append([sum(w for w, _ in mine)] + [sum(w * point[k] for w, point in mine) for k in (0, 1)])
    return sums[0] == sums[1] and sums[0][0] > 0


def reasons_by_hand(kind, many):
    """Every value that has the form of a reason of the kind for so many points; of weights those up to 2."""
    numbers = range(many)
    if kind == "steps":
        found = product(numbers, numbers)
    elif kind == "stretches":
        found = product(numbers, numbers, numbers)
    elif kind == "half planes":
        found = [(weights,) for weights in product(range(3), repeat=many)]
    elif kind == "parities":
        found = [(lot,) for lot in lots_by_hand(many)]
    else:
        found = product(lots_by_hand(many), numbers)
    return [(WORDS[kind],) + tuple(members) for members in found]


class BarFor(Lists):
    def test_small_examples(self):
        self.assert_told(bar_for("steps", ((1,), (2,)), (1, 0)), ("order", 0, 1))
        self.assert_told(bar_for("steps", ((2,), (2,)), (0, 1)), ("order", 1, 0))
        self.assertIn(bar_for("stretches", ((1,), (2,), (3,)), (1, 0, 1)), [("between", 0, 1, 2)])
        self.assertIn(bar_for("stretches", ((1,), (1,)), (1, 0)), [("between", 0, 1, 0)])
        self.assert_told(bar_for("boxes", ((0, 0), (1, 1), (2, 2)), (1, 0, 1)), ("within", (0, 2), 1))
        self.assert_told(bar_for("parities", ((1,), (0,)), (0, 1)), ("sum", (1,)))
        self.assert_told(bar_for(row=(0,), points=((1, 1),), kind="ands"), ("covered", (), 0))
        word, weights = bar_for("half planes", ((0, 0), (1, 1), (0, 1), (1, 0)), (1, 1, 0, 0))
        self.assertEqual(word, "meet")
        self.assertTrue(weights[0] == weights[1] == weights[2] == weights[3] > 0)

    def test_each_row_is_cut_or_barred(self):
        for kind in KINDS:
            for points in points_of(kind):
                self.assert_cut_or_barred(kind, points)

    def test_scattered_points(self):
        numbers = random.Random(11)
        for kind in KINDS:
            for _ in range(60):
                c = numbers.choice(LENGTHS[kind])
                low, high = (0, 1) if kind in OF_VALUES else numbers.choice([(0, 2), (-1, 1), (-3, 3), (-50, 50), (-9999, 9999)])
                self.assert_cut_or_barred(kind, tuple(
                    tuple(numbers.randint(low, high) for _ in range(c)) for _ in range(numbers.randrange(7))
                ))

    def assert_cut_or_barred(self, kind, points):
        cut = rules_cut(kind, points)
        for row in rows_by_hand(len(points)):
            if cut.has(row):
                self.assert_raises_with(Undefined, "what", "cut", bar_for, kind, points, row)
                continue
            reason = bar_for(kind, points, row)
            self.assertTrue(is_made_right(reason))
            self.assertTrue(holds_by_hand(kind, points, row, reason), (kind, points, row, reason))
            self.assertIs(bar_holds(kind, points, row, reason), True)
            self.assertEqual(bar_for(row=row, points=points, kind=kind), reason)
            if kind == "half planes":
                self.assertLessEqual(figures(reason[1]), 12)

    def test_errors_and_their_order(self):
        for kind in NO_KINDS + odd_values():
            for points, row in (((), ()), (((1,),), (1,)), (None, None), ([1], (2,))):
                self.assert_raises_with(Undefined, "what", "kind", bar_for, kind, points, row)
                self.assert_raises_with(Undefined, "what", "kind", bar_holds, kind, points, row, ("order", 0, 1))
                self.assert_raises_with(Undefined, "what", "kind", bar_holds, reason=None, row=row, points=points, kind=kind)
        for kind in KINDS:
            for wrong in near_points(kind):
                for row in ((), (0,), (0, 1), None):
                    self.assert_raises_with(InvalidPoints, "value", wrong, bar_for, kind, wrong, row)
                    self.assert_raises_with(InvalidPoints, "value", wrong, bar_holds, kind, wrong, row, None)
            for points in ((), ((0,) * LENGTHS[kind][0],) * 2, points_of(kind)[-1]):
                right = (0,) * len(points)
                rows = odd_values() + [right + (0,), right[1:] + (True,), right[1:] + (2,), list(right), (right,)] + [right[1:]] * (len(points) > 0)
                for wrong in [row for row in rows if row != right or any(type(value) is not int for value in row)]:
                    self.assert_raises_with(InvalidRow, "value", wrong, bar_for, kind, points, wrong)
                    self.assert_raises_with(InvalidRow, "value", wrong, bar_holds, kind, points, wrong, ("order", 0, 1))
                    self.assert_raises_with(InvalidRow, "value", wrong, bar_holds, reason=None, row=wrong, points=points, kind=kind)

    def test_rows_that_are_cut(self):
        for kind in KINDS:
            self.assert_raises_with(Undefined, "what", "cut", bar_for, kind, (), ())
            self.assert_raises_with(Undefined, "what", "cut", bar_for, row=(), points=(), kind=kind)

    def test_stays(self):
        for kind, points, row, reasons in HELD:
            ahead = repr((points, row, reasons))
            for other in (row, tuple(1 - value for value in row), (0,), None):
                self.assert_stays([], bar_for, kind, points, other)
                for reason in reasons + [list(reasons[0]), None]:
                    self.assert_stays([], bar_holds, kind, points, other, reason)
            self.assertEqual(repr((points, row, reasons)), ahead)


class BarHolds(Lists):
    def test_reasons_written_by_hand(self):
        for kind, points, row, reasons in HELD:
            for reason in reasons:
                self.assertIs(bar_holds(kind, points, row, reason), True, reason)
                self.assertIs(bar_holds(reason=reason, row=row, points=points, kind=kind), True)
                self.assertTrue(holds_by_hand(kind, points, row, reason))

    def test_wrong_reasons_written_by_hand(self):
        for kind, points, row, reason in (
            ("steps", ((1,), (2,)), (1, 0), ("order", 1, 0)), ("steps", ((2,), (1,)), (1, 0), ("order", 0, 1)),
            ("steps", ((1,), (2,)), (1, 1), ("order", 0, 1)), ("steps", ((1,), (2,)), (0, 0), ("order", 0, 1)),
            ("steps", ((1,), (2,)), (1, 0), ("order", 0, 2)), ("steps", ((1,), (2,)), (1, 0), ("order", -2, 1)),
            ("steps", ((1,), (2,)), (1, 0), ("order", False, True)), ("steps", ((1,), (2,)), (1, 0), ("order", 0, True)),
            ("stretches", ((1,), (2,), (3,)), (1, 0, 1), ("between", 2, 1, 0)),
            ("stretches", ((1,), (2,), (3,)), (1, 0, 1), ("between", 0, 1, 0)),
            ("stretches", ((1,), (2,), (3,)), (1, 0, 1), ("between", 0, 1)),
            ("boxes", ((0, 0), (2, 2), (1, 3)), (1, 1, 0), ("within", (0, 1), 2)),
            ("boxes", ((0, 0), (2, 2), (1, 1)), (1, 1, 0), ("within", (0,), 2)),
            ("boxes", ((0, 0), (2, 2), (1, 1)), (1, 1, 0), ("within", (1, 0), 2)),
            ("boxes", ((0, 0), (2, 2), (1, 1)), (1, 0, 0), ("within", (0, 1), 2)),
            ("boxes", ((0, 0), (2, 2), (1, 1)), (1, 1, 0), ("within", (0, 1), 1)),
            ("boxes", ((0, 0), (2, 2), (1, 1)), (0, 0, 0), ("within", (), 2)),
            ("half planes", ((0, 0), (2, 0), (1, 0)), (1, 1, 0), ("meet", (1, 1, 1))),
            ("half planes", ((0, 0), (2, 0), (1, 0)), (1, 1, 0), ("meet", (0, 0, 0))),
            ("half planes", ((0, 0), (2, 0), (1, 0)), (1, 1, 0), ("meet", (-1, -1, -2))),
            ("half planes", ((0, 0), (2, 0), (1, 1)), (1, 1, 0), ("meet", (1, 1, 2))),
            ("half planes", ((0, 0), (2, 0), (1, 0)), (1, 1, 0), ("meet", (True, True, 2))),
            ("half planes", ((0, 0), (2, 0), (1, 0)), (1, 1, 0), ("meet", (1, 1, 2, 0))),
            ("half planes", ((0, 0), (2, 0), (1, 0)), (1, 1, 0), ("meet", [1, 1, 2])),
            ("half planes", ((0, 0), (2, 0), (1, 0)), (1, 1, 1), ("meet", (1, 1, 2))),
            ("parities", ((0, 1), (1, 0), (1, 1)), (1, 1, 1), ("sum", (0, 1))),
            ("parities", ((0, 1), (1, 0), (1, 1)), (1, 1, 0), ("sum", (0, 1, 2))),
            ("parities", ((0, 1), (1, 0), (1, 1)), (1, 1, 1), ("sum", ())),
            ("parities", ((0, 1), (1, 0), (1, 1)), (1, 1, 1), ("sum", (0, 2, 1))),
            ("ands", ((1, 0), (0, 1), (0, 0)), (1, 1, 0), ("covered", (0,), 2)),
            ("ands", ((1, 0), (0, 1), (0, 0)), (1, 1, 0), ("covered", (), 2)),
            ("ands", ((1, 0), (0, 1), (0, 0)), (1, 1, 1), ("covered", (0, 1), 2)),
            ("ands", ((1, 0), (0, 1), (0, 0)), (1, 0, 0), ("covered", (0, 1), 2)),
        ):
            self.assertIs(bar_holds(kind, points, row, reason), False, (kind, points, row, reason))
            self.assertFalse(holds_by_hand(kind, points, row, reason))

    def test_every_reason_of_small_points(self):
        for kind in KINDS:
            told = 0
            for points in [points for points in points_of(kind) if len(points) < 5]:
                cut = rules_cut(kind, points)
                for row in rows_by_hand(len(points)):
                    for reason in reasons_by_hand(kind, len(points)):
                        holds = bar_holds(kind, points, row, reason)
                        self.assertIs(holds, holds_by_hand(kind, points, row, reason), (kind, points, row, reason))
                        self.assertFalse(holds and cut.has(row))
                        told += holds
            self.assertGreaterEqual(told, 10, kind)

    def test_no_reason_of_a_row_that_is_cut(self):
        for kind in KINDS:
            for points in points_of(kind)[1::2]:
                cut = rules_cut(kind, points)
                barred = [bar_for(kind, points, row) for row in rows_by_hand(len(points)) if not cut.has(row)]
                for row in cut.rows:
                    for reason in barred[::3] + reasons_by_hand(kind, len(points))[::7]:
                        self.assertIs(bar_holds(kind, points, row, reason), False)

    def test_spoilt_at_one_place(self):
        for kind, points, row, reasons in HELD:
            wrong = 0
            for reason in reasons:
                for other in spoilt(reason) + [reason + (0,), reason[:-1], reason[1:], (reason[0],)]:
                    right = holds_by_hand(kind, points, row, other)
                    wrong += not right
                    self.assertIs(bar_holds(kind, points, row, other), right, other)
            self.assertGreater(wrong, 20)

    def test_words_of_other_kinds(self):
        for kind, points, row, reasons in HELD:
            for word in list(WORDS.values()) + list(KINDS) + ["", "ORDER", "cut"]:
                if word != WORDS[kind]:
                    self.assertIs(bar_holds(kind, points, row, (word,) + reasons[0][1:]), False)
            for other, _, _, others in HELD:
                if other != kind:
                    for reason in others:
                        self.assertIs(bar_holds(kind, points, row, reason), False)

    def test_any_values_at_all(self):
        for kind, points, row, reasons in HELD:
            word, reason = WORDS[kind], reasons[0]
            for value in odd_values() + [row, points, reasons, (kind,), rules_cut(kind, points)]:
                others = [value, (value,), (word, value), (word, value, value), (word, value, value, value), (value,) + reason[1:]]
                others += [exchanged_at(reason, place, (value,)) for place in range(len(reason))]
                for other in others:
                    right = holds_by_hand(kind, points, row, other)
                    self.assertIs(bar_holds(kind, points, row, other), right, (kind, other))

    def test_great_weights(self):
        points = ((-9999, 0), (9999, 0), (0, 0), (0, 1))
        self.assertIs(bar_holds("half planes", points, (1, 1, 0, 0), ("meet", (10 ** 11, 10 ** 11, 2 * 10 ** 11, 0))), True)
        self.assertIs(bar_holds("half planes", points, (1, 1, 0, 0), ("meet", (10 ** 11, 10 ** 11, 2 * 10 ** 11, 1))), False)
        self.assertIs(bar_holds("half planes", points, (1, 1, 0, 0), ("meet", (10 ** 11, 10 ** 11 - 1, 2 * 10 ** 11 - 1, 0))), False)

    def test_four_points_or_fewer(self):
        # Where yes and no meet, they do so in a point alike, on a line, in a triangle, or crossing: each is found.
        for points, row, many in (
            (((3, 4), (3, 4)), (1, 0), 2), (((0, 0), (1, 2), (3, 6)), (0, 1, 0), 3), (((0, 5), (0, 1), (0, 2)), (0, 0, 1), 3),
            (((0, 0), (9, 1), (2, 8), (3, 3)), (1, 1, 1, 0), 4), (((0, 0), (9, 9), (1, 5), (7, 2)), (0, 0, 1, 1), 4),
        ):
            word, weights = bar_for("half planes", points, row)
            self.assertEqual((word, len([w for w in weights if w > 0])), ("meet", many))
            for fewer in range(many):
                for lot in combinations(range(len(points)), fewer):
                    cut = rules_cut("half planes", tuple(points[p] for p in lot))
                    self.assertTrue(cut.has(tuple(row[p] for p in lot)))
