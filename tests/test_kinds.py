import random

from nextguess.errors import InvalidPoints, Undefined
from nextguess.freedom import dimension
from nextguess.kinds import are_points, most_free, rules_cut
from nextguess.lists import Rules
from tests.cases import Lists
from tests.cuts import KINDS, LENGTHS, NO_KINDS, OF_VALUES, cut_by_hand, near_points, plane_points, points_of
from tests.samples import full, odd_values, rows_by_hand


def are_points_by_hand(kind, value):
    """What are_points is to tell, by the words of DOC.md."""
    if type(value) is not tuple or any(type(point) is not tuple for point in value):
        return False
    if any(type(member) is not int for point in value for member in point):
        return False
    if kind in OF_VALUES and any(member not in (0, 1) for point in value for member in point):
        return False
    return len({len(point) for point in value}) <= 1 and all(len(point) in LENGTHS[kind] for point in value)


class ArePoints(Lists):
    def test_small_examples(self):
        self.assertIs(are_points("steps", ((1,), (-2,))), True)
        self.assertIs(are_points("steps", ((1, 2),)), False)
        self.assertIs(are_points("stretches", ((1,), (1,))), True)
        self.assertIs(are_points("boxes", ((1, 2, 3), (4, 5, 6))), True)
        self.assertIs(are_points("boxes", ((1, 2, 3), (4, 5))), False)
        self.assertIs(are_points("boxes", ((1, 2, 3, 4),)), False)
        self.assertIs(are_points("half planes", ((0, 0), (9999, -9999))), True)
        self.assertIs(are_points("half planes", ((0,),)), False)
        self.assertIs(are_points("half planes", ((0, 0, 0),)), False)
        self.assertIs(are_points("parities", ((0, 1, 1, 0),)), True)
        self.assertIs(are_points("parities", ((0, 2),)), False)
        self.assertIs(are_points("ands", ((1,), (0,))), True)
        self.assertIs(are_points("ands", ((1, 1, 1, 1, 1),)), False)
        self.assertIs(are_points(value=((1,),), kind="steps"), True)

    def test_right_ones_of_each_kind(self):
        for kind in KINDS:
            self.assertIs(are_points(kind, ()), True)
            for points in points_of(kind):
                self.assertIs(are_points(kind, points), True, (kind, points))
                self.assertTrue(are_points_by_hand(kind, points))

    def test_each_number_of_coordinates(self):
        for kind in KINDS:
            for c in range(7):
                for value in (0, 1):
                    self.assertIs(are_points(kind, ((value,) * c,)), c in LENGTHS[kind])
                    self.assertIs(are_points(kind, ((value,) * c, (0,) * c)), c in LENGTHS[kind])
                    for other in range(7):
                        if other != c:
                            self.assertIs(are_points(kind, ((value,) * c, (0,) * other)), False)

    def test_coordinates_that_are_no_values(self):
        for kind in KINDS:
            for coordinate in (-9999, -1, 2, 9999):
                points = ((0,) * LENGTHS[kind][-1], (coordinate,) * LENGTHS[kind][-1])
                self.assertIs(are_points(kind, points), kind not in OF_VALUES)

    def test_wrong_values_of_each_kind(self):
        for kind in KINDS:
            for value in near_points(kind):
                self.assertIs(are_points(kind, value), False, (kind, value))
                self.assertFalse(are_points_by_hand(kind, value))
                self.assert_raises_with(InvalidPoints, "value", value, rules_cut, kind, value)
                self.assert_raises_with(InvalidPoints, "value", value, rules_cut, points=value, kind=kind)

    def test_any_value_at_all(self):
        for kind in KINDS:
            for value in odd_values() + [points for other in KINDS for points in points_of(other)[::3]]:
                right = are_points_by_hand(kind, value)
                self.assertIs(are_points(kind, value), right, (kind, value))
                if not right:
                    self.assert_raises_with(InvalidPoints, "value", value, rules_cut, kind, value)

    def test_no_kind(self):
        for kind in NO_KINDS + odd_values():
            for value in ((), ((1,),), ((0, 1),), None, [0], (True,)):
                self.assert_raises_with(Undefined, "what", "kind", are_points, kind, value)
                self.assert_raises_with(Undefined, "what", "kind", are_points, value=value, kind=kind)
                self.assert_raises_with(Undefined, "what", "kind", rules_cut, kind, value)
                self.assert_raises_with(Undefined, "what", "kind", rules_cut, points=value, kind=kind)


class RulesCut(Lists):
    def test_small_examples(self):
        self.assert_rules(rules_cut("steps", ((1,), (2,))), 2, [(0, 0), (0, 1), (1, 1)])
        self.assert_rules(rules_cut("steps", ((2,), (1,), (2,))), 3, [(0, 0, 0), (1, 0, 1), (1, 1, 1)])
        self.assert_rules(rules_cut("stretches", ((1,), (2,), (3,))), 3, [row for row in rows_by_hand(3) if row != (1, 0, 1)])
        self.assert_rules(rules_cut("stretches", ((-5,), (-5,))), 2, [(0, 0), (1, 1)])
        self.assert_rules(rules_cut("boxes", ((0, 0), (1, 1), (2, 2))), 3, [row for row in rows_by_hand(3) if row != (1, 0, 1)])
        self.assert_rules(rules_cut("boxes", ((0, 0), (0, 2), (2, 0))), 3, [row for row in rows_by_hand(3) if row != (0, 1, 1)])
        self.assert_rules(rules_cut("boxes", ((0, 0), (0, 2), (2, 1))), 3, rows_by_hand(3))
        self.assert_rules(rules_cut("half planes", ((0, 0), (1, 0), (2, 0))), 3,
                          [row for row in rows_by_hand(3) if row not in ((0, 1, 0), (1, 0, 1))])
        self.assert_rules(rules_cut("half planes", ((0, 0), (1, 1), (0, 1), (1, 0))), 4,
                          [row for row in rows_by_hand(4) if row not in ((0, 0, 1, 1), (1, 1, 0, 0))])
        self.assert_rules(rules_cut("parities", ((0, 1), (1, 0), (1, 1))), 3, [(0, 0, 0), (0, 1, 1), (1, 0, 1), (1, 1, 0)])
        self.assert_rules(rules_cut("ands", ((0, 1), (1, 0), (1, 1))), 3, [(0, 0, 1), (0, 1, 1), (1, 0, 1), (1, 1, 1)])
        self.assert_rules(rules_cut(points=((0,),), kind="parities"), 1, [(0,)])
        self.assert_rules(rules_cut(points=((0,), (1,)), kind="ands"), 2, [(0, 1), (1, 1)])

    def test_the_example_of_the_overview(self):
        stretches = rules_cut("stretches", ((1,), (2,), (3,), (4,)))
        self.assertEqual(stretches, Rules(4, [tuple(int(a <= k < b) for k in range(4)) for a in range(5) for b in range(a, 5)]))

    def test_no_points(self):
        for kind in KINDS:
            self.assert_rules(rules_cut(kind, ()), 0, [()])

    def test_one_point_and_alike_points(self):
        for kind in ("steps", "stretches", "boxes", "half planes"):
            for c in LENGTHS[kind]:
                for many in (1, 2, 6):
                    for x in (0, -9999, 9999):
                        self.assert_rules(rules_cut(kind, ((x,) * c,) * many), many, [(0,) * many, (1,) * many])

    def test_held_against_a_slow_search(self):
        for kind in KINDS:
            for points in points_of(kind):
                self.assert_rules(rules_cut(kind, points), len(points), cut_by_hand(kind, points))

    def test_scattered_points(self):
        numbers = random.Random(7)
        for kind in KINDS:
            for _ in range(60):
                c = numbers.choice(LENGTHS[kind])
                low, high = (0, 1) if kind in OF_VALUES else numbers.choice([(0, 2), (-1, 1), (-3, 3), (-20, 20), (-9999, 9999)])
                many = numbers.randrange(1, 7 if high <= 20 or kind != "half planes" else 6)
                points = tuple(tuple(numbers.randint(low, high) for _ in range(c)) for _ in range(many))
                self.assert_rules(rules_cut(kind, points), many, cut_by_hand(kind, points))

    def test_points_in_another_order(self):
        for kind in KINDS:
            for points in points_of(kind)[::2]:
                back = [row[::-1] for row in rules_cut(kind, points[::-1]).rows]
                self.assertEqual(rules_cut(kind, points), Rules(len(points), back))

    def test_half_planes_are_turned_over(self):
        for points in plane_points():
            cut = rules_cut("half planes", points)
            self.assertEqual(cut, cut.turned((1,) * len(points)))

    def test_stays(self):
        for kind in KINDS:
            for points in points_of(kind)[::4] + [list(points_of(kind)[1]), None]:
                ahead = repr(points)
                self.assert_stays([], are_points, kind, points)
                self.assert_stays([], rules_cut, kind, points)
                self.assertEqual(repr(points), ahead)
        self.assert_stays([], rules_cut, "lines", ())


class MostFree(Lists):
    def test_each_kind(self):
        self.assert_told(most_free("steps", 1), 1)
        self.assert_told(most_free("stretches", 1), 2)
        for c in (1, 2, 3):
            self.assert_told(most_free("boxes", c), 2 * c)
        self.assert_told(most_free("half planes", 2), 3)
        for c in (1, 2, 3, 4):
            self.assert_told(most_free("parities", c), c)
            self.assert_told(most_free(c=c, kind="ands"), c)

    def test_no_more_than_that_is_free(self):
        for kind in KINDS:
            reached = dict.fromkeys(LENGTHS[kind], False)
            for points in points_of(kind)[1:]:
                c = len(points[0])
                d = dimension(rules_cut(kind, points))
                self.assertLessEqual(d, most_free(kind, c))
                reached[c] = reached[c] or d == most_free(kind, c)
            self.assertTrue(all(reached.values()), (kind, reached))

    def test_all_rows_of_so_many_points(self):
        crossing = ((1, 0, 0), (-1, 0, 0), (0, 1, 0), (0, -1, 0), (0, 0, 1), (0, 0, -1))
        self.assertEqual(rules_cut("boxes", crossing), full(6))
        self.assertEqual(rules_cut("half planes", ((0, 0), (1, 0), (0, 1))), full(3))
        self.assertEqual(rules_cut("parities", ((1, 0, 0), (0, 1, 0), (0, 0, 1))), full(3))
        self.assertEqual(rules_cut("ands", ((0, 1, 1), (1, 0, 1), (1, 1, 0))), full(3))
