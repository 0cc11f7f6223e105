import inspect
import unittest

from helpers import BIG, BIGGEST, all_small_tables, ask, cells_in, good_tables, no_tables, refuse
from stairseek.errors import NoTable
from stairseek.tables import is_table
from stairseek.turned import laid_over, turned_about

TABLE = [[1, 3, 5, 7], [3, 3, 6, 9], [4, 8, 8, 9]]
SIX = [[10 * row + place for place in range(6)] for row in range(6)]
LONG = [[-BIGGEST, -BIG, 0], [-BIG, 0, BIG], [0, BIG, BIGGEST]]


class InterfaceTest(unittest.TestCase):
    def test_arguments_are_named_as_told(self):
        for call in (laid_over, turned_about):
            self.assertEqual(list(inspect.signature(call).parameters), ["table"])


class LaidOverTest(unittest.TestCase):
    def lays(self, table, told):
        with self.subTest(table=table):
            self.assertEqual(ask(self, laid_over, table), told)

    def test_one_row_one_place_one_cell(self):
        self.lays([[1, 2, 3]], [[1], [2], [3]])
        self.lays([[1], [2], [3]], [[1, 2, 3]])
        self.lays([[1, 2, 3, 4, 5, 6]], [[1], [2], [3], [4], [5], [6]])
        self.lays([[5]], [[5]])
        self.lays([[0]], [[0]])
        self.lays([[-7]], [[-7]])

    def test_more_rows_and_places(self):
        self.lays(TABLE, [[1, 3, 4], [3, 3, 8], [5, 6, 8], [7, 9, 9]])
        self.lays([[1, 2], [3, 4]], [[1, 3], [2, 4]])
        self.lays([[-5, -4, 0], [-3, 2, 6]], [[-5, -3], [-4, 2], [0, 6]])
        self.lays(SIX, [[10 * row + place for row in range(6)] for place in range(6)])

    def test_alike_numbers_and_numbers_of_many_figures(self):
        self.lays([[2, 2], [2, 2], [2, 2]], [[2, 2, 2], [2, 2, 2]])
        self.lays([[-BIGGEST, BIG], [0, BIGGEST]], [[-BIGGEST, 0], [BIG, BIGGEST]])
        self.lays([[10 ** 40]], [[10 ** 40]])

    def test_each_number_stands_with_row_and_place_changed(self):
        for table in good_tables() + all_small_tables():
            with self.subTest(table=table):
                told = ask(self, laid_over, table)
                self.assertEqual([len(told), len(told[0])], [len(table[0]), len(table)])
                for row, place in cells_in(table):
                    self.assertEqual(told[place][row], table[row][place])


class TurnedAboutTest(unittest.TestCase):
    def turns(self, table, told):
        with self.subTest(table=table):
            self.assertEqual(ask(self, turned_about, table), told)

    def test_one_row_one_place_one_cell(self):
        self.turns([[1, 2, 3]], [[-3, -2, -1]])
        self.turns([[1], [2], [3]], [[-3], [-2], [-1]])
        self.turns([[1], [2], [3], [4], [5], [6]], [[-6], [-5], [-4], [-3], [-2], [-1]])
        self.turns([[5]], [[-5]])
        self.turns([[0]], [[0]])
        self.turns([[-7]], [[7]])

    def test_more_rows_and_places(self):
        self.turns(TABLE, [[-9, -8, -8, -4], [-9, -6, -3, -3], [-7, -5, -3, -1]])
        self.turns([[1, 2], [3, 4]], [[-4, -3], [-2, -1]])
        self.turns([[-5, -4, 0], [-3, 2, 6]], [[-6, -2, 3], [0, 4, 5]])
        self.turns(SIX, [[-(10 * row + place) for place in (5, 4, 3, 2, 1, 0)] for row in (5, 4, 3, 2, 1, 0)])

    def test_alike_numbers_and_numbers_of_many_figures(self):
        self.turns([[2, 2], [2, 2], [2, 2]], [[-2, -2], [-2, -2], [-2, -2]])
        self.turns([[-BIGGEST, BIG], [0, BIGGEST]], [[-BIGGEST, 0], [-BIG, BIGGEST]])
        self.turns(LONG, LONG)
        self.turns([[10 ** 40]], [[-(10 ** 40)]])

    def test_each_number_stands_at_the_other_end_with_the_other_sign(self):
        for table in good_tables() + all_small_tables():
            with self.subTest(table=table):
                told = ask(self, turned_about, table)
                self.assertEqual([len(told), len(told[0])], [len(table), len(table[0])])
                for row, place in cells_in(table):
                    self.assertEqual(told[len(table) - 1 - row][len(table[0]) - 1 - place], -table[row][place])


class BothTest(unittest.TestCase):
    def test_both_tell_tables_of_lists_and_whole_numbers(self):
        for table in good_tables() + all_small_tables():
            for call in (laid_over, turned_about):
                with self.subTest(table=table, call=call):
                    told = call(table)
                    self.assertIs(told.__class__, list)
                    self.assertEqual({row.__class__ for row in told}, {list})
                    self.assertEqual({number.__class__ for row in told for number in row}, {int})
                    self.assertTrue(is_table(told))

    def test_each_twice_is_the_table_and_the_order_of_the_two_is_no_matter(self):
        for table in good_tables() + all_small_tables():
            with self.subTest(table=table):
                self.assertEqual(laid_over(laid_over(table)), table)
                self.assertEqual(turned_about(turned_about(table)), table)
                self.assertEqual(laid_over(turned_about(table)), turned_about(laid_over(table)))

    def test_the_lists_are_new_and_no_two_are_one(self):
        alike = [4, 4]
        for table in good_tables() + [[alike, alike], [alike, alike, alike]]:
            for call in (laid_over, turned_about):
                with self.subTest(table=table, call=call):
                    first = call(table)
                    second = call(table)
                    lists = [table, first, second] + first + second + ([] if table[0] is alike else table)
                    self.assertEqual(len({id(one) for one in lists}), len(lists))
                    self.assertFalse({id(row) for row in first + second} & {id(row) for row in table})

    def test_what_the_asker_does_changes_nothing(self):
        table = [[1, 2], [3, 4]]
        for call, told in ((laid_over, [[1, 3], [2, 4]]), (turned_about, [[-4, -3], [-2, -1]])):
            first = call(table)
            first[0][0] = 99
            first.append([7])
            self.assertEqual(table, [[1, 2], [3, 4]])
            self.assertEqual(call(table), told)
        kept = laid_over(table)
        table[0][0] = 0
        self.assertEqual(kept, [[1, 3], [2, 4]])
        self.assertEqual(laid_over(table), [[0, 3], [2, 4]])
        self.assertEqual(turned_about(table), [[-4, -3], [-2, 0]])

    def test_what_is_no_table(self):
        for thing in no_tables():
            for call in (laid_over, turned_about):
                with self.subTest(thing=thing, call=call):
                    refuse(self, NoTable, call, thing)


if __name__ == "__main__":
    unittest.main()
