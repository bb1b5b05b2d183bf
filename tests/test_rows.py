import unittest

from nextguess.rows import all_lots, all_rows, is_lot, is_row, read_at
from tests.samples import lots_by_hand, odd_values, rows_by_hand


class Rows(unittest.TestCase):
    def test_all_rows(self):
        self.assertEqual(all_rows(0), ((),))
        self.assertEqual(all_rows(1), ((0,), (1,)))
        self.assertEqual(all_rows(2), ((0, 0), (0, 1), (1, 0), (1, 1)))
        for size in range(9):
            rows = all_rows(size)
            self.assertIs(type(rows), tuple)
            self.assertEqual(rows, tuple(rows_by_hand(size)))
            self.assertEqual(rows, tuple(sorted(rows)))
            self.assertEqual(rows, all_rows(size=size))

    def test_every_row_is_a_row_of_its_size_only(self):
        for size in range(9):
            for row in all_rows(size):
                self.assertEqual({type(value) for value in row} - {int}, set())
                self.assertIs(is_row(row, size), True)
                self.assertIs(is_row(row, size + 1), False)
                self.assertIs(is_row(row + (0,), size), False)
                self.assertIs(is_row(list(row), size), False)

    def test_a_row_spoilt_at_one_place(self):
        for size in range(1, 9):
            for row in (all_rows(size)[0], all_rows(size)[-1], all_rows(size)[len(all_rows(size)) // 3]):
                for point in range(size):
                    for spoilt in (True, False, 2, -1, None, "0", "1", (0,), [0], ()):
                        wrong = row[:point] + (spoilt,) + row[point + 1:]
                        self.assertIs(is_row(wrong, size), False, wrong)

    def test_any_value_at_all_as_a_row(self):
        for size in range(9):
            right = rows_by_hand(size)
            for value in odd_values():
                booleans = isinstance(value, tuple) and any(isinstance(member, bool) for member in value)
                self.assertIs(is_row(value, size), value in right and not booleans, value)

    def test_no_points(self):
        self.assertIs(is_row((), 0), True)
        self.assertIs(is_row([], 0), False)
        self.assertIs(is_row("", 0), False)
        self.assertIs(is_row(None, 0), False)
        self.assertIs(is_row((0,), 0), False)

    def test_by_name(self):
        self.assertIs(is_row(size=2, value=(0, 1)), True)
        self.assertIs(is_row(size=1, value=(0, 1)), False)


class Lots(unittest.TestCase):
    def test_all_lots(self):
        self.assertEqual(all_lots(0), ((),))
        self.assertEqual(all_lots(2), ((), (0,), (1,), (0, 1)))
        self.assertEqual(all_lots(3), ((), (0,), (1,), (2,), (0, 1), (0, 2), (1, 2), (0, 1, 2)))
        for size in range(9):
            lots = all_lots(size)
            self.assertIs(type(lots), tuple)
            self.assertEqual({type(lot) for lot in lots}, {tuple})
            self.assertEqual(lots, tuple(lots_by_hand(size)))
            self.assertEqual(lots, all_lots(size=size))
            self.assertEqual(len(lots), 2 ** size)

    def test_every_lot_is_a_lot(self):
        for size in range(9):
            for lot in all_lots(size):
                self.assertIs(is_lot(lot, size), True)
                self.assertIs(is_lot(lot, size + 1), True)
                self.assertIs(is_lot(list(lot), size), False)
                self.assertIs(is_lot(lot + (size,), size), False)
                self.assertIs(is_lot((-1,) + lot, size), False)
                if len(lot) > 0:
                    self.assertIs(is_lot(lot, lot[-1]), False)
                    self.assertIs(is_lot(lot + lot[-1:], size), False)
                    self.assertIs(is_lot(lot[:1] + lot, size), False)
                if len(lot) > 1:
                    self.assertIs(is_lot(lot[::-1], size), False)
                    self.assertIs(is_lot(lot[1:2] + lot[:1] + lot[2:], size), False)

    def test_a_lot_spoilt_at_one_place(self):
        for lot in all_lots(5):
            for place in range(len(lot)):
                for spoilt in (True, False, None, "1", (lot[place],), [lot[place]], -1, 5, 10 ** 12):
                    wrong = lot[:place] + (spoilt,) + lot[place + 1:]
                    self.assertIs(is_lot(wrong, 5), False, wrong)

    def test_booleans_are_no_points(self):
        self.assertIs(is_lot((False,), 3), False)
        self.assertIs(is_lot((False, True), 3), False)
        self.assertIs(is_lot((0, True), 3), False)
        self.assertIs(is_lot((True, 2), 3), False)

    def test_any_value_at_all_as_a_lot(self):
        for size in range(9):
            right = lots_by_hand(size)
            for value in odd_values():
                booleans = isinstance(value, tuple) and any(isinstance(member, bool) for member in value)
                self.assertIs(is_lot(value, size), value in right and not booleans, value)

    def test_by_name(self):
        self.assertIs(is_lot(size=2, value=(0, 1)), True)
        self.assertIs(is_lot(size=1, value=(0, 1)), False)


class ReadAt(unittest.TestCase):
    def test_read_at(self):
        self.assertEqual(read_at((), ()), ())
        self.assertEqual(read_at((0, 1, 1), ()), ())
        self.assertEqual(read_at((0, 1, 1), (0, 2)), (0, 1))
        self.assertEqual(read_at((0, 1, 1), (1, 2)), (1, 1))
        self.assertEqual(read_at(lot=(0,), row=(1, 0)), (1,))

    def test_every_lot_of_some_rows(self):
        for size in range(9):
            for row in rows_by_hand(size)[::7]:
                self.assertEqual(read_at(row, tuple(range(size))), row)
                for lot in lots_by_hand(size):
                    read = read_at(row, lot)
                    self.assertIs(type(read), tuple)
                    self.assertEqual(list(read), [row[point] for point in lot])
