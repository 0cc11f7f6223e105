import inspect
import unittest

from helpers import (BIG, BIGGEST, all_small_tables, ask, cells_in, good_tables, no_cells, no_numbers, no_tables,
                     numbers_around, odd_things, refuse)
from stairseek.errors import NoCell, NoChange, NoFit, NoNumber, NoPlace, NoTable
from stairseek.keeper import Keeper
from stairseek.order import number_by
from stairseek.tables import cells_of, is_table

TABLE = [[1, 3, 5, 7], [3, 3, 6, 9], [4, 8, 8, 9]]
SPREAD = [[10, 20, 30], [40, 50, 60], [70, 80, 90]]


def copied(table):
    return [list(row) for row in table]


def all_told(keeper):
    """All that a Keeper tells, whatever is asked."""
    table = keeper.table()
    cells = [keeper.cells(x) for x in numbers_around(table)]
    numbers = [keeper.number(k) for k in range(len(cells_in(table)))]
    return [table, cells, numbers, [keeper.span(cell) for cell in cells_in(table)]]


def refuse_and_keep(case, keeper, error, call, *given):
    before = all_told(keeper)
    refuse(case, error, call, *given)
    case.assertEqual(all_told(keeper), before)


class InterfaceTest(unittest.TestCase):
    def test_arguments_are_named_as_told(self):
        self.assertEqual(list(inspect.signature(Keeper).parameters), ["table"])
        keeper = Keeper([[1]])
        told = {"change": ["cell", "x"], "undo": [], "table": [], "cells": ["x"], "number": ["k"], "span": ["cell"]}
        for name, arguments in told.items():
            self.assertEqual(list(inspect.signature(getattr(keeper, name)).parameters), arguments)


class BeginTest(unittest.TestCase):
    def test_it_tells_the_table_that_it_began_with(self):
        for table in good_tables() + all_small_tables():
            with self.subTest(table=table):
                told = ask(self, Keeper(table).table)
                self.assertEqual(told, table)
                self.assertIs(told.__class__, list)
                self.assertEqual({row.__class__ for row in told}, {list})

    def test_what_is_no_table(self):
        for thing in no_tables():
            with self.subTest(thing=thing):
                refuse(self, NoTable, Keeper, thing)

    def test_no_change_is_left_at_first(self):
        for table in good_tables():
            keeper = Keeper(table)
            refuse_and_keep(self, keeper, NoChange, keeper.undo)


class ChangeTest(unittest.TestCase):
    def test_within_what_fits_and_to_its_ends(self):
        keeper = Keeper([[10, 20, 30], [25, 50, 60], [40, 70, 90]])
        before = 50
        for x in (25, 26, 50, 59, 60):
            self.assertEqual(keeper.change((1, 1), x), (before, x))
            self.assertEqual(keeper.table(), [[10, 20, 30], [25, x, 60], [40, 70, 90]])
            before = x
        for x in (24, 61, 20, 70, 10, 90, -BIG, BIG):
            refuse_and_keep(self, keeper, NoFit, keeper.change, (1, 1), x)

    def test_each_number_beside_bounds_by_itself(self):
        for table, fits, beyond in (
                ([[0, 15, 15], [0, 20, 40], [0, 40, 40]], 15, 14),
                ([[0, 0, 0], [15, 20, 40], [15, 40, 40]], 15, 14),
                ([[0, 0, 25], [0, 20, 25], [0, 40, 40]], 25, 26),
                ([[0, 0, 0], [0, 20, 40], [25, 25, 40]], 25, 26)):
            with self.subTest(table=table):
                keeper = Keeper(table)
                refuse_and_keep(self, keeper, NoFit, keeper.change, (1, 1), beyond)
                self.assertEqual(keeper.change((1, 1), fits), (20, fits))
                refuse_and_keep(self, keeper, NoFit, keeper.change, (1, 1), beyond)

    def test_to_the_number_that_stands(self):
        for table in good_tables():
            keeper = Keeper(table)
            for cell in cells_in(table):
                number = table[cell[0]][cell[1]]
                self.assertEqual(keeper.change(cell, number), (number, number))
                self.assertEqual(keeper.table(), table)
            for cell in reversed(cells_in(table)):
                number = table[cell[0]][cell[1]]
                self.assertEqual(keeper.undo(), (number, number))
            refuse(self, NoChange, keeper.undo)

    def test_what_is_told_is_a_tuple_of_whole_numbers(self):
        keeper = Keeper(TABLE)
        for told in (keeper.change((0, 0), -5), keeper.undo(), keeper.change((2, 3), 9), keeper.undo()):
            self.assertIs(told.__class__, tuple)
            self.assertEqual([part.__class__ for part in told], [int, int])

    def test_corners_are_free_on_one_side(self):
        keeper = Keeper(SPREAD)
        self.assertEqual(keeper.change((0, 0), -BIGGEST), (10, -BIGGEST))
        self.assertEqual(keeper.change((2, 2), BIGGEST), (90, BIGGEST))
        self.assertEqual(keeper.change((0, 0), 20), (-BIGGEST, 20))
        self.assertEqual(keeper.change((2, 2), 80), (BIGGEST, 80))
        refuse_and_keep(self, keeper, NoFit, keeper.change, (0, 0), 21)
        refuse_and_keep(self, keeper, NoFit, keeper.change, (2, 2), 79)

    def test_one_cell_takes_any_number(self):
        keeper = Keeper([[0]])
        before = 0
        for x in (5, -5, BIGGEST, -BIGGEST, 0):
            self.assertEqual(keeper.change((0, 0), x), (before, x))
            self.assertEqual(keeper.table(), [[x]])
            before = x

    def test_alike_numbers_leave_only_themselves_within(self):
        keeper = Keeper([[2, 2, 2], [2, 2, 2], [2, 2, 2]])
        self.assertEqual(keeper.change((1, 1), 2), (2, 2))
        for x in (1, 3, -BIG, BIG):
            refuse_and_keep(self, keeper, NoFit, keeper.change, (1, 1), x)

    def test_just_what_leaves_a_table_fits(self):
        for table in good_tables() + all_small_tables()[::5]:
            for cell in cells_in(table):
                for x in numbers_around(table):
                    changed = copied(table)
                    changed[cell[0]][cell[1]] = x
                    keeper = Keeper(table)
                    if is_table(changed):
                        self.assertEqual(keeper.change(cell, x), (table[cell[0]][cell[1]], x))
                        self.assertEqual(keeper.table(), changed)
                    else:
                        refuse(self, NoFit, keeper.change, cell, x)
                        self.assertEqual(keeper.table(), table)

    def test_rows_handed_in_as_one_list_are_apart(self):
        row = [1, 1]
        keeper = Keeper([row, row])
        self.assertEqual(keeper.change((0, 0), 0), (1, 0))
        self.assertEqual(keeper.table(), [[0, 1], [1, 1]])
        self.assertEqual(row, [1, 1])


class UndoTest(unittest.TestCase):
    def test_one_by_one_back_to_the_first_table(self):
        keeper = Keeper(SPREAD)
        changes = [((0, 0), 5), ((1, 1), 45), ((1, 1), 60), ((1, 1), 60), ((2, 2), 100), ((0, 0), 20), ((1, 0), 20)]
        tables = []
        told = []
        for cell, x in changes:
            tables.append(keeper.table())
            told.append(keeper.change(cell, x))
        self.assertEqual(told, [(10, 5), (50, 45), (45, 60), (60, 60), (90, 100), (5, 20), (40, 20)])
        for table, (before, now) in zip(reversed(tables), reversed(told)):
            self.assertEqual(keeper.undo(), (now, before))
            self.assertEqual(keeper.table(), table)
            self.assertEqual(all_told(keeper), all_told(Keeper(table)))
        self.assertEqual(keeper.table(), SPREAD)
        refuse_and_keep(self, keeper, NoChange, keeper.undo)
        refuse_and_keep(self, keeper, NoChange, keeper.undo)

    def test_some_undone_and_changed_again(self):
        keeper = Keeper([[1, 5, 9]])
        self.assertEqual(keeper.change((0, 1), 6), (5, 6))
        self.assertEqual(keeper.change((0, 1), 7), (6, 7))
        self.assertEqual(keeper.change((0, 0), 2), (1, 2))
        self.assertEqual(keeper.undo(), (2, 1))
        self.assertEqual(keeper.undo(), (7, 6))
        self.assertEqual(keeper.change((0, 2), 8), (9, 8))
        self.assertEqual(keeper.table(), [[1, 6, 8]])
        self.assertEqual(keeper.undo(), (8, 9))
        self.assertEqual(keeper.undo(), (6, 5))
        self.assertEqual(keeper.table(), [[1, 5, 9]])
        refuse(self, NoChange, keeper.undo)
        self.assertEqual(keeper.change((0, 1), 3), (5, 3))
        self.assertEqual(keeper.undo(), (3, 5))
        refuse(self, NoChange, keeper.undo)

    def test_an_undone_change_that_leaned_on_another(self):
        keeper = Keeper([[1, 2]])
        self.assertEqual(keeper.change((0, 1), 10), (2, 10))
        self.assertEqual(keeper.change((0, 0), 9), (1, 9))
        self.assertEqual(keeper.undo(), (9, 1))
        self.assertEqual(keeper.undo(), (10, 2))
        self.assertEqual(keeper.table(), [[1, 2]])

    def test_what_is_refused_is_nothing_to_be_undone(self):
        keeper = Keeper([[1, 5, 9]])
        self.assertEqual(keeper.change((0, 1), 6), (5, 6))
        refuse(self, NoFit, keeper.change, (0, 1), 10)
        refuse(self, NoCell, keeper.change, (1, 0), 10)
        refuse(self, NoNumber, keeper.change, (0, 0), True)
        self.assertEqual(keeper.undo(), (6, 5))
        refuse(self, NoFit, keeper.change, (0, 1), 0)
        refuse_and_keep(self, keeper, NoChange, keeper.undo)

    def test_sixty_deeds(self):
        keeper = Keeper([[row + place for place in range(6)] for row in range(6)])
        first = keeper.table()
        tables = []
        for k in range(30):
            cell = (5 - k // 6, 5 - k % 6)
            tables.append(keeper.table())
            before = keeper.table()[cell[0]][cell[1]]
            self.assertEqual(keeper.change(cell, before + 5), (before, before + 5))
            self.assertEqual(all_told(keeper), all_told(Keeper(keeper.table())))
        while tables:
            told = keeper.undo()
            self.assertEqual(told[0], told[1] + 5)
            self.assertEqual(keeper.table(), tables.pop())
        self.assertEqual(keeper.table(), first)
        refuse(self, NoChange, keeper.undo)

    def test_sixty_changes_and_all_undone(self):
        keeper = Keeper([[0, 0], [0, 0]])
        for k in range(60):
            self.assertEqual(keeper.change((1, 1), k + 1), (k, k + 1))
        for k in range(60, 0, -1):
            self.assertEqual(keeper.undo(), (k, k - 1))
        refuse(self, NoChange, keeper.undo)


class SpanTest(unittest.TestCase):
    def spans(self, table, cell, told):
        with self.subTest(table=table, cell=cell):
            span = ask(self, Keeper(table).span, cell)
            self.assertIs(span.__class__, tuple)
            self.assertEqual(span, told)

    def test_one_cell_has_no_bound_on_either_side(self):
        self.spans([[5]], (0, 0), (None, None))

    def test_one_row_and_one_place(self):
        self.spans([[1, 5, 9]], (0, 0), (None, 5))
        self.spans([[1, 5, 9]], (0, 1), (1, 9))
        self.spans([[1, 5, 9]], (0, 2), (5, None))
        self.spans([[1], [5], [9]], (0, 0), (None, 5))
        self.spans([[1], [5], [9]], (1, 0), (1, 9))
        self.spans([[1], [5], [9]], (2, 0), (5, None))

    def test_corners(self):
        self.spans(SPREAD, (0, 0), (None, 20))
        self.spans(SPREAD, (0, 2), (20, 60))
        self.spans(SPREAD, (2, 0), (40, 80))
        self.spans(SPREAD, (2, 2), (80, None))

    def test_edges_and_within(self):
        self.spans(SPREAD, (0, 1), (10, 30))
        self.spans(SPREAD, (1, 0), (10, 50))
        self.spans(SPREAD, (1, 2), (50, 90))
        self.spans(SPREAD, (2, 1), (70, 90))
        self.spans(SPREAD, (1, 1), (40, 60))
        self.spans([[1, 4, 5], [2, 6, 8], [3, 7, 9]], (1, 1), (4, 7))
        self.spans([[0, 0], [0, 0]], (0, 0), (None, 0))
        self.spans([[0, 0], [0, 0]], (0, 1), (0, 0))
        self.spans([[-1, 0], [0, 1]], (1, 1), (0, None))

    def test_numbers_of_many_figures(self):
        self.spans([[-BIGGEST, 0, BIGGEST]], (0, 1), (-BIGGEST, BIGGEST))
        self.spans([[-BIGGEST, 0, BIGGEST]], (0, 0), (None, 0))

    def test_just_the_ends_of_what_fits(self):
        for table in good_tables() + all_small_tables()[::3]:
            for cell in cells_in(table):
                keeper = Keeper(table)
                least, greatest = keeper.span(cell)
                for bound, beyond, free in ((least, -1, -10 ** 30), (greatest, 1, 10 ** 30)):
                    if bound is None:
                        self.assertEqual(keeper.change(cell, free)[1], free)
                    else:
                        self.assertEqual(keeper.change(cell, bound)[1], bound)
                        refuse(self, NoFit, keeper.change, cell, bound + beyond)
                    keeper.undo()

    def test_behind_changes(self):
        keeper = Keeper(SPREAD)
        keeper.change((0, 1), 30)
        keeper.change((1, 2), 55)
        self.assertEqual(keeper.span((1, 1)), (40, 55))
        keeper.change((1, 0), 45)
        self.assertEqual(keeper.span((1, 1)), (45, 55))
        self.assertEqual(keeper.span((0, 0)), (None, 30))
        keeper.undo()
        self.assertEqual(keeper.span((1, 1)), (40, 55))

    def test_what_is_no_cell(self):
        for table in ([[0]], [[1, 2]], [[1], [2]], TABLE):
            keeper = Keeper(table)
            for thing in no_cells(len(table), len(table[0])):
                refuse_and_keep(self, keeper, NoCell, keeper.span, thing)


class AskedTest(unittest.TestCase):
    def test_cells(self):
        keeper = Keeper(TABLE)
        self.assertEqual(ask(self, keeper.cells, 3), [(0, 1), (1, 0), (1, 1)])
        self.assertEqual(ask(self, keeper.cells, 2), [])
        keeper.change((0, 1), 2)
        self.assertEqual(ask(self, keeper.cells, 3), [(1, 0), (1, 1)])
        self.assertEqual(ask(self, keeper.cells, 2), [(0, 1)])
        keeper.undo()
        self.assertEqual(ask(self, keeper.cells, 3), [(0, 1), (1, 0), (1, 1)])

    def test_number(self):
        keeper = Keeper(TABLE)
        self.assertEqual([keeper.number(k) for k in range(12)], [1, 3, 3, 3, 4, 5, 6, 7, 8, 8, 9, 9])
        keeper.change((2, 3), 20)
        self.assertEqual(ask(self, keeper.number, 11), 20)
        self.assertEqual(ask(self, keeper.number, 10), 9)
        keeper.change((2, 0), 8)
        self.assertEqual([keeper.number(k) for k in range(12)], [1, 3, 3, 3, 5, 6, 7, 8, 8, 8, 9, 20])

    def test_as_the_other_stages_tell(self):
        for table in good_tables():
            keeper = Keeper(table)
            for x in numbers_around(table):
                self.assertEqual(keeper.cells(x), cells_of(table, x))
            for k in range(len(cells_in(table))):
                self.assertEqual(keeper.number(k), number_by(table, k))

    def test_what_is_no_number(self):
        for table in ([[0]], [[1]], TABLE):
            keeper = Keeper(table)
            for thing in no_numbers():
                refuse_and_keep(self, keeper, NoNumber, keeper.cells, thing)

    def test_what_is_no_place(self):
        for table in ([[0]], [[0, 1]], TABLE):
            keeper = Keeper(table)
            many = len(cells_in(table))
            for thing in no_numbers() + [-1, -many, many, many + 1, BIG, -BIG]:
                refuse_and_keep(self, keeper, NoPlace, keeper.number, thing)


class RefusalTest(unittest.TestCase):
    def test_no_cell_comes_first(self):
        for table in ([[0]], [[1, 2]], TABLE):
            keeper = Keeper(table)
            for cell in no_cells(len(table), len(table[0])):
                for x in (0, BIG, None, True, "1", []):
                    refuse(self, NoCell, keeper.change, cell, x)
            self.assertEqual(keeper.table(), table)
            refuse(self, NoChange, keeper.undo)

    def test_no_number_comes_ahead_of_no_fit(self):
        for table in ([[0]], [[0, 1]], [[5, 5]], TABLE):
            keeper = Keeper(table)
            for cell in cells_in(table):
                for x in no_numbers():
                    refuse(self, NoNumber, keeper.change, cell, x)
            self.assertEqual(keeper.table(), table)
            refuse(self, NoChange, keeper.undo)

    def test_truths_are_no_numbers_though_they_would_fit(self):
        keeper = Keeper([[0, 1]])
        for x in (True, False):
            refuse_and_keep(self, keeper, NoNumber, keeper.change, (0, 0), x)
            refuse_and_keep(self, keeper, NoNumber, keeper.cells, x)
            refuse_and_keep(self, keeper, NoPlace, keeper.number, x)

    def test_all_three_due(self):
        keeper = Keeper(SPREAD)
        for odd in odd_things():
            refuse_and_keep(self, keeper, NoCell, keeper.change, (3, 0), odd)
            refuse_and_keep(self, keeper, NoCell, keeper.change, odd, 10 ** 9)
            refuse_and_keep(self, keeper, NoCell, keeper.change, odd, odd)
            refuse_and_keep(self, keeper, NoNumber, keeper.change, (1, 1), odd)
        refuse_and_keep(self, keeper, NoFit, keeper.change, (1, 1), 61)
        refuse_and_keep(self, keeper, NoFit, keeper.change, (1, 1), 39)


class OwnTest(unittest.TestCase):
    def test_the_table_handed_in_may_be_changed_by_the_asker(self):
        table = copied(SPREAD)
        keeper = Keeper(table)
        before = all_told(keeper)
        table[1][1] = 999
        table[0].append(5)
        table.pop()
        self.assertEqual(all_told(keeper), before)
        keeper.change((1, 1), 55)
        self.assertEqual(table, [[10, 20, 30, 5], [40, 999, 60]])

    def test_a_change_does_not_reach_the_table_handed_in(self):
        table = copied(SPREAD)
        keeper = Keeper(table)
        keeper.change((1, 1), 55)
        keeper.change((0, 0), -1)
        keeper.undo()
        self.assertEqual(table, SPREAD)

    def test_tables_told_are_the_askers_own(self):
        keeper = Keeper(SPREAD)
        keeper.change((1, 1), 55)
        before = all_told(keeper)
        first = keeper.table()
        second = keeper.table()
        lists = [first, second] + first + second
        self.assertEqual(len({id(one) for one in lists}), len(lists))
        first[1][1] = 0
        first.pop()
        self.assertEqual(second, [[10, 20, 30], [40, 55, 60], [70, 80, 90]])
        self.assertEqual(all_told(keeper), before)
        self.assertEqual(keeper.undo(), (55, 50))
        self.assertEqual(second, [[10, 20, 30], [40, 55, 60], [70, 80, 90]])
        keeper.change((0, 0), 0)
        self.assertEqual(second[0][0], 10)

    def test_cells_told_are_the_askers_own(self):
        keeper = Keeper([[2, 2]])
        first = keeper.cells(2)
        second = keeper.cells(2)
        self.assertIsNot(first, second)
        first.clear()
        self.assertEqual(second, [(0, 0), (0, 1)])
        self.assertEqual(keeper.cells(2), [(0, 0), (0, 1)])

    def test_two_keepers_of_one_table_are_apart(self):
        table = copied(SPREAD)
        one = Keeper(table)
        other = Keeper(table)
        before = all_told(other)
        one.change((1, 1), 45)
        self.assertEqual(all_told(other), before)
        refuse(self, NoChange, other.undo)
        other.change((0, 0), 3)
        self.assertEqual(one.table(), [[10, 20, 30], [40, 45, 60], [70, 80, 90]])
        self.assertEqual(one.undo(), (45, 50))
        refuse(self, NoChange, one.undo)
        self.assertEqual(other.undo(), (3, 10))


if __name__ == "__main__":
    unittest.main()
