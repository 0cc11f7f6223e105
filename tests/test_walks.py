import inspect
import unittest

from helpers import (BIG, BIGGEST, all_small_tables, ask, good_tables, no_numbers, no_tables, numbers_around,
                     odd_things, refuse)
from stairseek.errors import NoNumber, NoTable
from stairseek.tables import cells_of, number_at
from stairseek.walks import found_at, walk_for

TABLE = [[1, 3, 5, 7], [3, 3, 6, 9], [4, 8, 8, 9]]
SIX = [[10 * row + place for place in range(6)] for row in range(6)]
ALIKE = [[row + place for place in range(6)] for row in range(6)]
LONG = [[-BIGGEST, -BIG, 0], [-BIG, 0, BIG], [0, BIG, BIGGEST]]


class InterfaceTest(unittest.TestCase):
    def test_arguments_are_named_as_told(self):
        for call in (walk_for, found_at):
            self.assertEqual(list(inspect.signature(call).parameters), ["table", "x"])


class WalkTest(unittest.TestCase):
    def walks(self, table, x, cells, found):
        with self.subTest(table=table, x=x):
            self.assertEqual(ask(self, walk_for, table, x), cells)
            self.assertEqual(ask(self, found_at, table, x), found)

    def test_one_cell(self):
        for x in (4, 6, -BIG, BIG):
            self.walks([[5]], x, [(0, 0)], None)
        self.walks([[5]], 5, [(0, 0)], (0, 0))

    def test_one_row(self):
        row = [[1, 3, 3, 5]]
        self.walks(row, 0, [(0, 3), (0, 2), (0, 1), (0, 0)], None)
        self.walks(row, 1, [(0, 3), (0, 2), (0, 1), (0, 0)], (0, 0))
        self.walks(row, 2, [(0, 3), (0, 2), (0, 1), (0, 0)], None)
        self.walks(row, 3, [(0, 3), (0, 2)], (0, 2))
        self.walks(row, 4, [(0, 3), (0, 2)], None)
        self.walks(row, 5, [(0, 3)], (0, 3))
        self.walks(row, 6, [(0, 3)], None)

    def test_one_place(self):
        place = [[1], [3], [3], [5]]
        self.walks(place, 0, [(0, 0)], None)
        self.walks(place, 1, [(0, 0)], (0, 0))
        self.walks(place, 2, [(0, 0), (1, 0)], None)
        self.walks(place, 3, [(0, 0), (1, 0)], (1, 0))
        self.walks(place, 4, [(0, 0), (1, 0), (2, 0), (3, 0)], None)
        self.walks(place, 5, [(0, 0), (1, 0), (2, 0), (3, 0)], (3, 0))
        self.walks(place, 6, [(0, 0), (1, 0), (2, 0), (3, 0)], None)

    def test_more_places_than_rows(self):
        self.walks(TABLE, 7, [(0, 3)], (0, 3))
        self.walks(TABLE, 8, [(0, 3), (1, 3), (1, 2), (2, 2)], (2, 2))
        self.walks(TABLE, 4, [(0, 3), (0, 2), (0, 1), (1, 1), (2, 1), (2, 0)], (2, 0))
        self.walks(TABLE, 2, [(0, 3), (0, 2), (0, 1), (0, 0), (1, 0)], None)
        self.walks(TABLE, 0, [(0, 3), (0, 2), (0, 1), (0, 0)], None)
        self.walks(TABLE, 10, [(0, 3), (1, 3), (2, 3)], None)

    def test_a_number_that_stands_at_several_cells_is_found_at_the_first_on_the_walk(self):
        self.walks(TABLE, 3, [(0, 3), (0, 2), (0, 1)], (0, 1))
        self.walks(TABLE, 9, [(0, 3), (1, 3)], (1, 3))
        self.walks([[2, 2], [2, 2]], 2, [(0, 1)], (0, 1))
        self.walks(ALIKE, 5, [(0, 5)], (0, 5))
        self.walks(ALIKE, 7, [(0, 5), (1, 5), (2, 5)], (2, 5))
        self.walks(ALIKE, 3, [(0, 5), (0, 4), (0, 3)], (0, 3))

    def test_six_by_six(self):
        self.walks(SIX, 50, [(0, 5), (1, 5), (2, 5), (3, 5), (4, 5), (5, 5), (5, 4), (5, 3), (5, 2), (5, 1), (5, 0)],
                   (5, 0))
        self.walks(SIX, 55, [(row, 5) for row in range(6)], (5, 5))
        self.walks(SIX, 0, [(0, place) for place in (5, 4, 3, 2, 1, 0)], (0, 0))
        self.walks(SIX, -1, [(0, place) for place in (5, 4, 3, 2, 1, 0)], None)
        self.walks(SIX, 56, [(row, 5) for row in range(6)], None)
        self.walks(SIX, 23, [(0, 5), (1, 5), (2, 5), (2, 4), (2, 3)], (2, 3))
        self.walks(SIX, 18, [(0, 5), (1, 5), (2, 5), (2, 4), (2, 3), (2, 2), (2, 1), (2, 0)], None)

    def test_numbers_below_0_and_of_many_figures(self):
        self.walks(LONG, -BIG, [(0, 2), (0, 1)], (0, 1))
        self.walks(LONG, -BIGGEST, [(0, 2), (0, 1), (0, 0)], (0, 0))
        self.walks(LONG, BIGGEST, [(0, 2), (1, 2), (2, 2)], (2, 2))
        self.walks(LONG, BIGGEST - 1, [(0, 2), (1, 2), (2, 2), (2, 1)], None)
        self.walks(LONG, BIG + 1, [(0, 2), (1, 2), (2, 2), (2, 1)], None)
        self.walks(LONG, -BIG - 1, [(0, 2), (0, 1), (0, 0), (1, 0)], None)

    def test_each_step_is_as_told(self):
        for table in good_tables() + all_small_tables():
            for x in numbers_around(table):
                with self.subTest(table=table, x=x):
                    self.follow(table, x, ask(self, walk_for, table, x))

    def follow(self, table, x, told):
        self.assertIs(told.__class__, list)
        due = (0, len(table[0]) - 1)
        for cell in told:
            self.assertIs(cell.__class__, tuple)
            self.assertEqual([part.__class__ for part in cell], [int, int])
            self.assertEqual(cell, due)
            number = number_at(table, cell)
            due = None
            if x < number and cell[1] > 0:
                due = (cell[0], cell[1] - 1)
            elif x > number and cell[0] + 1 < len(table):
                due = (cell[0] + 1, cell[1])
        self.assertIsNone(due)

    def test_found_is_the_last_cell_just_where_x_stands_there(self):
        for table in good_tables() + all_small_tables():
            for x in numbers_around(table):
                with self.subTest(table=table, x=x):
                    found = ask(self, found_at, table, x)
                    if any(number == x for row in table for number in row):
                        self.assertIs(found.__class__, tuple)
                        self.assertEqual([part.__class__ for part in found], [int, int])
                        self.assertEqual(found, walk_for(table, x)[-1])
                        self.assertIn(found, cells_of(table, x))
                    else:
                        self.assertIsNone(found)


class OwnTest(unittest.TestCase):
    def test_a_told_list_is_the_askers_own(self):
        first = walk_for(TABLE, 8)
        second = walk_for(TABLE, 8)
        self.assertIsNot(first, second)
        first.clear()
        self.assertEqual(second, [(0, 3), (1, 3), (1, 2), (2, 2)])
        second.append((0, 0))
        self.assertEqual(walk_for(TABLE, 8), [(0, 3), (1, 3), (1, 2), (2, 2)])
        self.assertEqual(found_at(TABLE, 8), (2, 2))

    def test_nothing_of_an_earlier_table_is_kept(self):
        table = [[1, 2], [3, 4]]
        self.assertEqual(found_at(table, 4), (1, 1))
        table[1][1] = 9
        self.assertIsNone(found_at(table, 4))
        self.assertEqual(walk_for(table, 4), [(0, 1), (1, 1), (1, 0)])
        table[1][1] = 0
        for call in (walk_for, found_at):
            refuse(self, NoTable, call, table, 4)


class RefusalTest(unittest.TestCase):
    def test_what_is_no_number(self):
        for table in good_tables():
            for x in no_numbers():
                for call in (walk_for, found_at):
                    with self.subTest(table=table, x=x, call=call):
                        refuse(self, NoNumber, call, table, x)

    def test_truths_are_not_found_as_0_and_1(self):
        for call in (walk_for, found_at):
            refuse(self, NoNumber, call, [[0, 1]], True)
            refuse(self, NoNumber, call, [[0, 1]], False)

    def test_no_table_comes_ahead_of_no_number(self):
        for table in no_tables():
            for x in [0, 5] + odd_things():
                for call in (walk_for, found_at):
                    with self.subTest(table=table, x=x, call=call):
                        refuse(self, NoTable, call, table, x)


if __name__ == "__main__":
    unittest.main()
