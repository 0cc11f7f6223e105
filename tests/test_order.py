import inspect
import unittest

from helpers import (BIG, BIGGEST, all_small_tables, ask, cells_in, good_tables, no_numbers, no_tables,
                     numbers_around, odd_things, refuse)
from stairseek.errors import NoNumber, NoPlace, NoTable
from stairseek.order import count_from, count_less, count_most, merged, middle, number_by

TABLE = [[1, 3, 5, 7], [3, 3, 6, 9], [4, 8, 8, 9]]
IN_ORDER = [1, 3, 3, 3, 4, 5, 6, 7, 8, 8, 9, 9]
LONG = [[-BIGGEST, -BIG, 0], [-BIG, 0, BIG], [0, BIG, BIGGEST]]


def numbers_of(table):
    return [number for row in table for number in row]


def no_places(table):
    many = len(numbers_of(table))
    return [-1, -many, -many - 1, many, many + 1, BIG, -BIG, (0, 0), [0], [], "0", "1", {0: 0}, {0}] + odd_things()


class InterfaceTest(unittest.TestCase):
    def test_arguments_are_named_as_told(self):
        told = [(number_by, "table k"), (count_less, "table x"), (count_most, "table x"), (count_from, "table a b"),
                (merged, "table"), (middle, "table")]
        for call, names in told:
            self.assertEqual(list(inspect.signature(call).parameters), names.split())


class NumberByTest(unittest.TestCase):
    def test_every_place(self):
        self.assertEqual([ask(self, number_by, TABLE, k) for k in range(12)], IN_ORDER)
        self.assertEqual([ask(self, number_by, LONG, k) for k in range(9)],
                         [-BIGGEST, -BIG, -BIG, 0, 0, 0, BIG, BIG, BIGGEST])
        self.assertEqual(ask(self, number_by, [[5]], 0), 5)
        self.assertEqual([ask(self, number_by, [[2, 2], [2, 3]], k) for k in range(4)], [2, 2, 2, 3])
        self.assertEqual([ask(self, number_by, [[-3], [-2], [9]], k) for k in range(3)], [-3, -2, 9])

    def test_just_so_many_stand_ahead(self):
        for table in good_tables() + all_small_tables():
            numbers = numbers_of(table)
            told = [ask(self, number_by, table, k) for k in range(len(numbers))]
            for k, number in enumerate(told):
                with self.subTest(table=table, k=k):
                    self.assertIs(number.__class__, int)
                    self.assertLessEqual(sum(1 for other in numbers if other < number), k)
                    self.assertGreater(sum(1 for other in numbers if other <= number), k)
                    self.assertEqual(told.count(number), numbers.count(number))

    def test_what_is_no_place(self):
        for table in good_tables():
            for k in no_places(table):
                with self.subTest(table=table, k=k):
                    refuse(self, NoPlace, number_by, table, k)

    def test_truths_are_no_places(self):
        refuse(self, NoPlace, number_by, TABLE, True)
        refuse(self, NoPlace, number_by, TABLE, False)

    def test_no_table_comes_ahead_of_no_place(self):
        for table in no_tables():
            for k in [0, -1, 99] + odd_things():
                with self.subTest(table=table, k=k):
                    refuse(self, NoTable, number_by, table, k)


class CountTest(unittest.TestCase):
    def counts(self, table, x, less, most):
        with self.subTest(table=table, x=x):
            self.assertEqual(ask(self, count_less, table, x), less)
            self.assertEqual(ask(self, count_most, table, x), most)

    def test_numbers_that_stand_there(self):
        self.counts(TABLE, 1, 0, 1)
        self.counts(TABLE, 3, 1, 4)
        self.counts(TABLE, 8, 8, 10)
        self.counts(TABLE, 9, 10, 12)
        self.counts([[5]], 5, 0, 1)
        self.counts(LONG, 0, 3, 6)
        self.counts(LONG, -BIG, 1, 3)
        self.counts(LONG, BIGGEST, 8, 9)

    def test_numbers_between_below_and_beyond_all(self):
        self.counts(TABLE, 2, 1, 1)
        self.counts([[10, 20], [30, 40]], 35, 3, 3)
        self.counts(LONG, BIGGEST - 1, 8, 8)
        for x in (0, -1, -BIG):
            self.counts(TABLE, x, 0, 0)
        for x in (10, BIG):
            self.counts(TABLE, x, 12, 12)

    def test_just_so_many(self):
        for table in good_tables() + all_small_tables():
            numbers = numbers_of(table)
            for x in numbers_around(table):
                with self.subTest(table=table, x=x):
                    less = ask(self, count_less, table, x)
                    most = ask(self, count_most, table, x)
                    self.assertEqual([less.__class__, most.__class__], [int, int])
                    self.assertEqual(less, len([number for number in numbers if number < x]))
                    self.assertEqual(most, len([number for number in numbers if number <= x]))

    def test_what_is_no_number(self):
        for table in good_tables():
            for x in no_numbers():
                for call in (count_less, count_most):
                    with self.subTest(table=table, x=x, call=call):
                        refuse(self, NoNumber, call, table, x)

    def test_no_table_comes_ahead_of_no_number(self):
        for table in no_tables():
            for x in [0, 5] + odd_things():
                for call in (count_less, count_most):
                    with self.subTest(table=table, x=x, call=call):
                        refuse(self, NoTable, call, table, x)


class CountFromTest(unittest.TestCase):
    def test_a_below_b(self):
        self.assertEqual(ask(self, count_from, TABLE, 3, 8), 9)
        self.assertEqual(ask(self, count_from, TABLE, 2, 3), 3)
        self.assertEqual(ask(self, count_from, TABLE, 4, 7), 4)
        self.assertEqual(ask(self, count_from, TABLE, -BIG, BIG), 12)
        self.assertEqual(ask(self, count_from, TABLE, 1, 9), 12)
        self.assertEqual(ask(self, count_from, TABLE, -5, 0), 0)
        self.assertEqual(ask(self, count_from, TABLE, 10, 20), 0)
        self.assertEqual(ask(self, count_from, [[10, 20], [30, 40]], 21, 29), 0)
        self.assertEqual(ask(self, count_from, LONG, -BIG, BIG), 7)

    def test_a_at_b(self):
        self.assertEqual(ask(self, count_from, TABLE, 3, 3), 3)
        self.assertEqual(ask(self, count_from, TABLE, 5, 5), 1)
        self.assertEqual(ask(self, count_from, TABLE, 2, 2), 0)

    def test_a_above_b_is_0_and_no_refusal(self):
        self.assertEqual(ask(self, count_from, TABLE, 8, 3), 0)
        self.assertEqual(ask(self, count_from, TABLE, 4, 3), 0)
        self.assertEqual(ask(self, count_from, TABLE, 3, 2), 0)
        self.assertEqual(ask(self, count_from, TABLE, BIG, -BIG), 0)
        self.assertEqual(ask(self, count_from, TABLE, 99, 98), 0)

    def test_just_so_many(self):
        for table in good_tables() + all_small_tables()[::7]:
            numbers = numbers_of(table)
            around = numbers_around(table)
            for a in around:
                for b in around:
                    told = count_from(table, a, b)
                    self.assertIs(told.__class__, int)
                    self.assertEqual(told, len([number for number in numbers if a <= number <= b]), (table, a, b))

    def test_either_that_is_no_number(self):
        for table in ([[0]], [[1]], TABLE):
            for odd in no_numbers():
                with self.subTest(table=table, odd=odd):
                    refuse(self, NoNumber, count_from, table, odd, 5)
                    refuse(self, NoNumber, count_from, table, 5, odd)
                    refuse(self, NoNumber, count_from, table, odd, -BIG)
                    refuse(self, NoNumber, count_from, table, BIG, odd)
                    refuse(self, NoNumber, count_from, table, odd, odd)

    def test_no_table_comes_ahead_of_no_number(self):
        for table in no_tables():
            for a, b in ((0, 1), (1, 0), (None, 1), (1, None), ("x", True), (True, False), ([], {})):
                with self.subTest(table=table, a=a, b=b):
                    refuse(self, NoTable, count_from, table, a, b)


class MergedTest(unittest.TestCase):
    def test_number_then_row_then_place(self):
        self.assertEqual(ask(self, merged, TABLE),
                         [(1, 0, 0), (3, 0, 1), (3, 1, 0), (3, 1, 1), (4, 2, 0), (5, 0, 2), (6, 1, 2), (7, 0, 3),
                          (8, 2, 1), (8, 2, 2), (9, 1, 3), (9, 2, 3)])
        self.assertEqual(ask(self, merged, [[-1]]), [(-1, 0, 0)])
        self.assertEqual(ask(self, merged, [[2, 2], [2, 2]]), [(2, 0, 0), (2, 0, 1), (2, 1, 0), (2, 1, 1)])
        self.assertEqual(ask(self, merged, [[-5, 3], [-4, 3]]), [(-5, 0, 0), (-4, 1, 0), (3, 0, 1), (3, 1, 1)])

    def test_each_cell_once_rising(self):
        for table in good_tables() + all_small_tables():
            with self.subTest(table=table):
                told = ask(self, merged, table)
                self.assertIs(told.__class__, list)
                for entry in told:
                    self.assertIs(entry.__class__, tuple)
                    self.assertEqual([part.__class__ for part in entry], [int, int, int])
                    self.assertEqual(entry[0], table[entry[1]][entry[2]])
                self.assertTrue(all(ahead < behind for ahead, behind in zip(told, told[1:])))
                self.assertEqual(sorted(entry[1:] for entry in told), cells_in(table))
                self.assertEqual([entry[0] for entry in told], [number_by(table, k) for k in range(len(told))])

    def test_a_told_list_is_the_askers_own(self):
        table = [[1, 2], [3, 4]]
        first = merged(table)
        first.clear()
        second = merged(table)
        second[0] = None
        self.assertEqual(merged(table), [(1, 0, 0), (2, 0, 1), (3, 1, 0), (4, 1, 1)])
        self.assertEqual(table, [[1, 2], [3, 4]])
        self.assertEqual(number_by(table, 0), 1)
        self.assertEqual(middle(table), 2)

    def test_nothing_of_an_earlier_table_is_kept(self):
        table = [[1, 2], [3, 4]]
        self.assertEqual(merged(table)[3], (4, 1, 1))
        self.assertEqual(number_by(table, 3), 4)
        table[1][1] = 9
        self.assertEqual(merged(table)[3], (9, 1, 1))
        self.assertEqual(number_by(table, 3), 9)
        self.assertEqual(count_most(table, 4), 3)


class MiddleTest(unittest.TestCase):
    def test_an_odd_number_of_cells(self):
        self.assertEqual(ask(self, middle, [[7]]), 7)
        self.assertEqual(ask(self, middle, [[1, 5, 9]]), 5)
        self.assertEqual(ask(self, middle, [[1, 4, 7], [2, 5, 8], [3, 6, 9]]), 5)
        self.assertEqual(ask(self, middle, LONG), 0)
        self.assertEqual(ask(self, middle, [[1], [2], [2], [8], [9]]), 2)

    def test_an_even_number_of_cells_tells_the_lesser_of_the_two(self):
        self.assertEqual(ask(self, middle, [[1, 2]]), 1)
        self.assertEqual(ask(self, middle, [[1, 2], [3, 4]]), 2)
        self.assertEqual(ask(self, middle, TABLE), 5)
        self.assertEqual(ask(self, middle, [[10 * row + place for place in range(6)] for row in range(6)]), 25)

    def test_the_number_of_that_place(self):
        for table in good_tables() + all_small_tables():
            with self.subTest(table=table):
                numbers = sorted(numbers_of(table))
                told = ask(self, middle, table)
                self.assertIs(told.__class__, int)
                self.assertEqual(told, numbers[(len(numbers) - 1) // 2])

    def test_what_is_no_table(self):
        for table in no_tables():
            for call in (merged, middle):
                with self.subTest(table=table, call=call):
                    refuse(self, NoTable, call, table)


if __name__ == "__main__":
    unittest.main()
