import inspect
import unittest

from helpers import (BIG, BIGGEST, all_small_tables, ask, cells_in, good_tables, no_cells, no_numbers, no_tables,
                     numbers_around, odd_things, refuse)
from stairseek.errors import NoCell, NoNumber, NoTable
from stairseek.tables import cells_of, is_table, number_at


class InterfaceTest(unittest.TestCase):
    def test_arguments_are_named_as_told(self):
        self.assertEqual(list(inspect.signature(is_table).parameters), ["thing"])
        self.assertEqual(list(inspect.signature(number_at).parameters), ["table", "cell"])
        self.assertEqual(list(inspect.signature(cells_of).parameters), ["table", "x"])


class IsTableTest(unittest.TestCase):
    def test_tables(self):
        for table in good_tables() + all_small_tables():
            with self.subTest(table=table):
                self.assertIs(ask(self, is_table, table), True)

    def test_every_size_from_one_to_six(self):
        for rows in range(1, 9):
            for places in range(1, 9):
                with self.subTest(rows=rows, places=places):
                    table = [[0] * places for row in range(rows)]
                    self.assertIs(ask(self, is_table, table), rows <= 6 and places <= 6)

    def test_one_list_may_stand_as_two_rows(self):
        row = [1, 2]
        self.assertIs(is_table([row, row]), True)

    def test_what_is_none(self):
        for thing in no_tables():
            with self.subTest(thing=thing):
                self.assertIs(ask(self, is_table, thing), False)

    def test_truths_that_would_be_sorted_as_numbers(self):
        for thing in ([[False, True]], [[0, True]], [[False, 0]], [[0], [True]], [[False], [1]]):
            with self.subTest(thing=thing):
                self.assertIs(is_table(thing), False)

    def test_each_number_of_a_table_lowered_or_raised(self):
        for row, place in cells_in([[0] * 4] * 4):
            with self.subTest(row=row, place=place):
                low = [[10 * (r + p) for p in range(4)] for r in range(4)]
                low[row][place] -= 11
                self.assertIs(is_table(low), (row, place) == (0, 0))
                high = [[10 * (r + p) for p in range(4)] for r in range(4)]
                high[row][place] += 11
                self.assertIs(is_table(high), (row, place) == (3, 3))

    def test_a_fall_in_the_row_alone_and_in_the_place_alone(self):
        self.assertIs(is_table([[0, 3, 2], [5, 5, 5]]), False)
        self.assertIs(is_table([[0, 1, 2], [5, 6, 5]]), False)
        self.assertIs(is_table([[0, 5], [3, 5], [2, 5]]), False)
        self.assertIs(is_table([[0, 5], [0, 6], [0, 5]]), False)
        self.assertIs(is_table([[0, 5], [0, 5], [0, 5]]), True)

    def test_twenty_six_figures_are_told_apart(self):
        self.assertIs(is_table([[BIGGEST - 1, BIGGEST]]), True)
        self.assertIs(is_table([[BIGGEST, BIGGEST - 1]]), False)
        self.assertIs(is_table([[-BIGGEST], [1 - BIGGEST]]), True)
        self.assertIs(is_table([[1 - BIGGEST], [-BIGGEST]]), False)


class NumberAtTest(unittest.TestCase):
    def test_every_cell(self):
        for table in good_tables():
            for row, place in cells_in(table):
                with self.subTest(table=table, row=row, place=place):
                    self.assertEqual(repr(ask(self, number_at, table, (row, place))), repr(table[row][place]))

    def test_row_comes_ahead_of_place(self):
        self.assertEqual(number_at([[1, 2, 3], [4, 5, 6]], (0, 2)), 3)
        self.assertEqual(number_at([[1, 2, 3], [4, 5, 6]], (1, 0)), 4)

    def test_what_is_no_cell(self):
        for table in good_tables():
            for cell in no_cells(len(table), len(table[0])):
                with self.subTest(table=table, cell=cell):
                    refuse(self, NoCell, number_at, table, cell)

    def test_a_cell_of_another_table_is_none_of_this(self):
        refuse(self, NoCell, number_at, [[1, 2, 3], [4, 5, 6]], (2, 1))
        refuse(self, NoCell, number_at, [[1, 2], [3, 4], [5, 6]], (1, 2))

    def test_no_table_comes_ahead_of_no_cell(self):
        for thing in no_tables():
            for cell in ((0, 0), (-1, 0), (9, 9), (True, 0), [0, 0], None, "x", (0,)):
                with self.subTest(thing=thing, cell=cell):
                    refuse(self, NoTable, number_at, thing, cell)


class CellsOfTest(unittest.TestCase):
    def test_at_several_at_one_at_none(self):
        table = [[1, 3, 5, 7], [3, 3, 6, 9], [4, 8, 8, 9]]
        self.assertEqual(ask(self, cells_of, table, 3), [(0, 1), (1, 0), (1, 1)])
        self.assertEqual(ask(self, cells_of, table, 9), [(1, 3), (2, 3)])
        self.assertEqual(ask(self, cells_of, table, 8), [(2, 1), (2, 2)])
        self.assertEqual(ask(self, cells_of, table, 1), [(0, 0)])
        self.assertEqual(ask(self, cells_of, table, 4), [(2, 0)])
        for x in (-1, 0, 2, 10, BIG):
            self.assertEqual(ask(self, cells_of, table, x), [])

    def test_numbers_below_0_and_long_ones(self):
        table = [[-BIGGEST, -BIG, 0], [-BIG, 0, BIG], [0, BIG, BIGGEST]]
        self.assertEqual(cells_of(table, -BIG), [(0, 1), (1, 0)])
        self.assertEqual(cells_of(table, 0), [(0, 2), (1, 1), (2, 0)])
        self.assertEqual(cells_of(table, BIGGEST), [(2, 2)])
        self.assertEqual(cells_of(table, BIGGEST - 1), [])

    def test_just_the_cells_where_it_stands_rising(self):
        for table in good_tables() + all_small_tables():
            for x in numbers_around(table):
                with self.subTest(table=table, x=x):
                    told = ask(self, cells_of, table, x)
                    self.assertEqual(told, [cell for cell in cells_in(table) if number_at(table, cell) == x])
                    self.assertEqual(told, sorted(told))
                    self.assertIs(told.__class__, list)
                    for cell in told:
                        self.assertIs(cell.__class__, tuple)

    def test_what_is_no_number(self):
        for table in good_tables():
            for x in no_numbers():
                with self.subTest(table=table, x=x):
                    refuse(self, NoNumber, cells_of, table, x)

    def test_no_table_comes_ahead_of_no_number(self):
        for thing in no_tables():
            for x in [0, 5] + odd_things():
                with self.subTest(thing=thing, x=x):
                    refuse(self, NoTable, cells_of, thing, x)

    def test_a_told_list_is_the_askers_own(self):
        table = [[5, 5], [5, 6]]
        first = cells_of(table, 5)
        none = cells_of(table, 7)
        first.clear()
        none.append((0, 0))
        self.assertEqual(cells_of(table, 5), [(0, 0), (0, 1), (1, 0)])
        self.assertEqual(cells_of(table, 7), [])
        self.assertEqual(table, [[5, 5], [5, 6]])

    def test_nothing_of_an_earlier_table_is_kept(self):
        table = [[1, 2], [3, 4]]
        self.assertEqual(cells_of(table, 4), [(1, 1)])
        table[1][1] = 9
        self.assertEqual(cells_of(table, 4), [])
        self.assertEqual(number_at(table, (1, 1)), 9)
        table[1][1] = 0
        self.assertIs(is_table(table), False)
        refuse(self, NoTable, cells_of, table, 4)


if __name__ == "__main__":
    unittest.main()
