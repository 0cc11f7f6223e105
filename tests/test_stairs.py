import inspect
import itertools
import unittest

from helpers import (BIG, BIGGEST, all_small_tables, ask, good_tables, no_numbers, no_tables, numbers_around,
                     odd_things, refuse)
from stairseek.errors import NoNumber, NoTable
from stairseek.stairs import high_stair, paper_shows, stair_of, stair_paper
from stairseek.tables import cells_of

TABLE = [[1, 3, 5, 7], [3, 3, 6, 9], [4, 8, 8, 9]]
GAPS = [[10, 20, 30], [20, 30, 40], [40, 50, 60]]


def is_paper(table, x, steps):
    """The document's words, told of a list of whole numbers."""
    width = len(table[0])
    if len(steps) != len(table) or any(step < 0 or step > width for step in steps):
        return False
    if any(behind > ahead for ahead, behind in zip(steps, steps[1:])):
        return False
    for row, step in zip(table, steps):
        for place, number in enumerate(row):
            if (place < step and number >= x) or (place >= step and number <= x):
                return False
    return True


class InterfaceTest(unittest.TestCase):
    def test_arguments_are_named_as_told(self):
        for call in (stair_of, high_stair, stair_paper):
            self.assertEqual(list(inspect.signature(call).parameters), ["table", "x"])
        self.assertEqual(list(inspect.signature(paper_shows).parameters), ["table", "x", "thing"])


class StairTest(unittest.TestCase):
    def test_a_number_that_stands_there(self):
        self.assertEqual(ask(self, stair_of, TABLE, 3), [1, 0, 0])
        self.assertEqual(ask(self, high_stair, TABLE, 3), [2, 2, 0])
        self.assertEqual(ask(self, stair_of, TABLE, 8), [4, 3, 1])
        self.assertEqual(ask(self, high_stair, TABLE, 8), [4, 3, 3])
        self.assertEqual(ask(self, stair_of, TABLE, 9), [4, 3, 3])
        self.assertEqual(ask(self, high_stair, TABLE, 9), [4, 4, 4])

    def test_a_number_that_stands_between(self):
        self.assertEqual(ask(self, stair_of, TABLE, 2), [1, 0, 0])
        self.assertEqual(ask(self, high_stair, TABLE, 2), [1, 0, 0])
        self.assertEqual(ask(self, stair_of, GAPS, 35), [3, 2, 0])
        self.assertEqual(ask(self, high_stair, GAPS, 35), [3, 2, 0])

    def test_below_and_beyond_all(self):
        for x in (0, -1, -BIG):
            self.assertEqual(ask(self, stair_of, TABLE, x), [0, 0, 0])
            self.assertEqual(ask(self, high_stair, TABLE, x), [0, 0, 0])
        for x in (10, 11, BIG):
            self.assertEqual(ask(self, stair_of, TABLE, x), [4, 4, 4])
            self.assertEqual(ask(self, high_stair, TABLE, x), [4, 4, 4])

    def test_long_numbers_are_told_apart(self):
        table = [[BIGGEST - 1, BIGGEST]]
        self.assertEqual(stair_of(table, BIGGEST), [1])
        self.assertEqual(high_stair(table, BIGGEST - 1), [1])
        self.assertEqual(high_stair(table, BIGGEST), [2])

    def test_each_row_is_counted(self):
        for table in good_tables() + all_small_tables():
            for x in numbers_around(table):
                with self.subTest(table=table, x=x):
                    low = ask(self, stair_of, table, x)
                    high = ask(self, high_stair, table, x)
                    self.assertIs(low.__class__, list)
                    self.assertIs(high.__class__, list)
                    self.assertEqual(low, [sum(1 for n in row if n < x) for row in table])
                    self.assertEqual(high, [sum(1 for n in row if n <= x) for row in table])
                    self.assertEqual(low, sorted(low, reverse=True))
                    self.assertEqual(sum(high) - sum(low), len(cells_of(table, x)))

    def test_a_told_list_is_the_askers_own(self):
        for call in (stair_of, high_stair, stair_paper):
            with self.subTest(call=call):
                first = call(GAPS, 35)
                second = call(GAPS, 35)
                self.assertIsNot(first, second)
                first[0] = 99
                first.append(7)
                self.assertEqual(second, [3, 2, 0])
                self.assertEqual(call(GAPS, 35), [3, 2, 0])

    def test_nothing_of_an_earlier_table_is_kept(self):
        table = [[1, 2], [3, 4]]
        self.assertEqual(stair_paper(table, 5), [2, 2])
        self.assertIs(paper_shows(table, 5, [2, 2]), True)
        table[1][1] = 5
        self.assertIsNone(stair_paper(table, 5))
        self.assertIs(paper_shows(table, 5, [2, 2]), False)
        self.assertEqual(stair_of(table, 5), [2, 1])
        self.assertEqual(high_stair(table, 4), [2, 1])


class RefusalTest(unittest.TestCase):
    def test_what_is_no_number(self):
        for x in no_numbers():
            for table in ([[0]], [[1]], TABLE):
                with self.subTest(x=x, table=table):
                    for call in (stair_of, high_stair, stair_paper):
                        refuse(self, NoNumber, call, table, x)
                    for thing in ([0], [1, 0, 0], [9], "x", None):
                        refuse(self, NoNumber, paper_shows, table, x, thing)

    def test_no_table_comes_ahead_of_all_else(self):
        for table in no_tables():
            for x in (0, 5, True, None, "x", [1]):
                with self.subTest(table=table, x=x):
                    for call in (stair_of, high_stair, stair_paper):
                        refuse(self, NoTable, call, table, x)
                    for thing in ([0], [], "x", None):
                        refuse(self, NoTable, paper_shows, table, x, thing)


class PaperShowsTest(unittest.TestCase):
    def shows(self, table, x, thing, told):
        with self.subTest(table=table, x=x, thing=thing):
            self.assertIs(ask(self, paper_shows, table, x, thing), told)

    def test_the_right_paper(self):
        self.shows(GAPS, 35, [3, 2, 0], True)
        self.shows(GAPS, 25, [2, 1, 0], True)
        self.shows(GAPS, 9, [0, 0, 0], True)
        self.shows(GAPS, 61, [3, 3, 3], True)
        self.shows([[0]], 1, [1], True)
        self.shows([[0]], -1, [0], True)
        self.shows([[BIGGEST - 2, BIGGEST]], BIGGEST - 1, [1], True)

    def test_each_place_one_more_and_one_less(self):
        for x in (5, 15, 25, 35, 45, 55, 65):
            right = stair_of(GAPS, x)
            for row in range(3):
                for step in (1, -1):
                    wrong = list(right)
                    wrong[row] += step
                    self.shows(GAPS, x, wrong, False)

    def test_too_short_and_too_long(self):
        for thing in ([], [3], [3, 2], [3, 2, 0, 0], [3, 3, 2, 0], [0] * 40):
            self.shows(GAPS, 35, thing, False)

    def test_rising(self):
        for thing in ([0, 2, 3], [2, 3, 0], [0, 0, 1], [3, 0, 2]):
            self.shows(GAPS, 35, thing, False)

    def test_below_0_or_beyond_the_rows(self):
        for thing in ([4, 2, 0], [3, 2, -1], [3, -1, 0], [-3, 2, 0], [BIG, 2, 0], [3, 2, -BIG]):
            self.shows(GAPS, 35, thing, False)
        # Slices would take these for places counted from behind, or for all there is.
        self.shows([[0, 2]], 1, [-1], False)
        self.shows([[0, 2]], 3, [3], False)
        self.shows([[0, 2]], -1, [-2], False)
        self.shows([[0, 2]], -1, [-3], False)

    def test_another_kind_in_the_place_of_a_number(self):
        self.shows([[0, 2]], 1, [True], False)
        self.shows([[0, 2]], -1, [False], False)
        self.shows(GAPS, 35, [3, 2, False], False)
        self.shows(GAPS, 25, [2, True, 0], False)
        for odd in odd_things() + ["3", [3], (3,)]:
            for row in range(3):
                thing = [3, 2, 0]
                thing[row] = odd
                self.shows(GAPS, 35, thing, False)

    def test_another_kind_in_the_place_of_the_list(self):
        for thing in odd_things() + [(3, 2, 0), "320", {3: 0, 2: 0, 0: 0}, {0: 3, 1: 2, 2: 0}, [[3, 2, 0]], 3, 0]:
            self.shows(GAPS, 35, thing, False)
        self.shows([[0, 2]], 1, (1,), False)
        self.shows([[0, 2]], 1, 1, False)
        self.shows([[0, 2]], 1, {1: 1}, False)

    def test_where_x_stands_no_paper_shows(self):
        for table in (GAPS, TABLE, [[0, 0], [0, 0]]):
            for x in sorted({number for row in table for number in row}):
                for steps in itertools.product(range(len(table[0]) + 1), repeat=len(table)):
                    self.shows(table, x, list(steps), False)

    def test_every_list_of_small_tables(self):
        for table in all_small_tables():
            if len(table) * len(table[0]) > 6:
                continue
            for x in range(-1, 6):
                for steps in itertools.product(range(-1, len(table[0]) + 2), repeat=len(table)):
                    self.assertIs(paper_shows(table, x, list(steps)), is_paper(table, x, steps), (table, x, steps))


class StairPaperTest(unittest.TestCase):
    def test_a_list_where_x_stands_nowhere(self):
        self.assertEqual(ask(self, stair_paper, GAPS, 35), [3, 2, 0])
        self.assertEqual(ask(self, stair_paper, GAPS, 9), [0, 0, 0])
        self.assertEqual(ask(self, stair_paper, GAPS, 61), [3, 3, 3])
        self.assertEqual(ask(self, stair_paper, TABLE, 2), [1, 0, 0])

    def test_none_where_it_stands(self):
        for x in (10, 20, 30, 40, 50, 60):
            self.assertIsNone(ask(self, stair_paper, GAPS, x))

    def test_either_it_stands_there_or_a_paper_shows_that_it_does_not(self):
        for table in good_tables() + all_small_tables():
            for x in numbers_around(table):
                with self.subTest(table=table, x=x):
                    stands = any(number == x for row in table for number in row)
                    paper = ask(self, stair_paper, table, x)
                    self.assertEqual(bool(cells_of(table, x)), stands)
                    self.assertEqual(paper is None, stands)
                    if paper is not None:
                        self.assertIs(paper.__class__, list)
                        self.assertIs(paper_shows(table, x, paper), True)
                        self.assertTrue(is_paper(table, x, paper))


if __name__ == "__main__":
    unittest.main()
