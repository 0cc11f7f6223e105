"""What the document promises over all stages together."""

import unittest

from helpers import BIG, BIGGEST, all_small_tables, cells_in, good_tables, numbers_around
from stairseek.desk import Desk
from stairseek.keeper import Keeper
from stairseek.looks import best_look, fewest_looks, looks_left, open_after
from stairseek.order import count_from, count_less, count_most, merged, middle, number_by
from stairseek.stairs import high_stair, paper_shows, stair_of, stair_paper
from stairseek.tables import cells_of, is_table, number_at
from stairseek.texts import read_table, show_table
from stairseek.turned import laid_over, turned_about
from stairseek.walks import found_at, walk_for


def tables():
    return good_tables() + all_small_tables()[::3]


def all_told(table, x):
    """All that is told of a table and a number, by functions that are handed a table."""
    many = len(cells_in(table))
    return [cells_of(table, x), stair_of(table, x), high_stair(table, x), stair_paper(table, x), walk_for(table, x),
            found_at(table, x), count_less(table, x), count_most(table, x), count_from(table, x - 1, x + 1),
            [number_by(table, k) for k in range(many)], merged(table), middle(table), laid_over(table),
            turned_about(table), show_table(table), [number_at(table, cell) for cell in cells_in(table)]]


def lists_within(thing):
    if isinstance(thing, (list, tuple)):
        inner = [one for part in thing for one in lists_within(part)]
        return ([thing] if isinstance(thing, list) else []) + inner
    return []


def word_of_look(table, cell, x):
    return "less" if x < number_at(table, cell) else "greater"


def seek(table, x):
    """Looks as best_look tells, and answers the cell at which x was found, or None, and how many looks it took."""
    rows = len(table)
    places = len(table[0])
    low = [0] * rows
    high = [places] * rows
    looks = 0
    while best_look(rows, places, low, high) is not None:
        cell = best_look(rows, places, low, high)
        looks += 1
        if number_at(table, cell) == x:
            return cell, looks
        low, high = open_after(rows, places, low, high, cell, word_of_look(table, cell, x))
    return None, looks


class FoundTest(unittest.TestCase):
    def test_found_by_the_walk_just_where_cells_are_told_else_a_stair_shows_it(self):
        for table in tables():
            for x in numbers_around(table):
                with self.subTest(table=table, x=x):
                    cells = cells_of(table, x)
                    self.assertEqual(cells, [cell for cell in cells_in(table) if number_at(table, cell) == x])
                    paper = stair_paper(table, x)
                    if cells:
                        self.assertIn(found_at(table, x), cells)
                        self.assertIsNone(paper)
                        self.assertFalse(paper_shows(table, x, stair_of(table, x)))
                        self.assertFalse(paper_shows(table, x, high_stair(table, x)))
                    else:
                        self.assertIsNone(found_at(table, x))
                        self.assertIs(paper_shows(table, x, paper), True)
                        self.assertEqual([stair_of(table, x), high_stair(table, x)], [paper, paper])
                    self.assertEqual(count_most(table, x) - count_less(table, x), len(cells))

    def test_the_so_manieth_has_just_so_many_ahead_of_it(self):
        for table in tables():
            entries = merged(table)
            for k, (number, row, place) in enumerate(entries):
                self.assertEqual([number_by(table, k), number_at(table, (row, place))], [number, number])
                self.assertEqual(len([other for other in entries if other < (number, row, place)]), k)
                self.assertTrue(count_less(table, number) <= k < count_most(table, number))

    def test_with_the_fewest_looks_it_is_found(self):
        small = [table for table in good_tables() if len(table) <= 4 and len(table[0]) <= 4]
        for table in small + all_small_tables()[::40]:
            fewest = fewest_looks(len(table), len(table[0]))
            for x in numbers_around(table):
                with self.subTest(table=table, x=x):
                    found, looks = seek(table, x)
                    self.assertLessEqual(looks, fewest)
                    if cells_of(table, x):
                        self.assertIn(found, cells_of(table, x))
                    else:
                        self.assertIsNone(found)


class TurnedTest(unittest.TestCase):
    def test_laid_over_a_table_tells_the_same_in_other_words(self):
        for table in tables():
            laid = laid_over(table)
            self.assertTrue(is_table(laid))
            self.assertEqual([entry[0] for entry in merged(laid)], [entry[0] for entry in merged(table)])
            self.assertEqual(middle(laid), middle(table))
            for x in numbers_around(table):
                with self.subTest(table=table, x=x):
                    self.assertEqual(cells_of(laid, x), sorted((place, row) for row, place in cells_of(table, x)))
                    self.assertEqual(found_at(laid, x) is None, found_at(table, x) is None)
                    self.assertEqual(count_less(laid, x), count_less(table, x))
                    self.assertEqual(count_most(laid, x), count_most(table, x))
                    for told in (stair_of, high_stair):
                        stair = told(table, x)
                        over = [len([step for step in stair if step > place]) for place in range(len(table[0]))]
                        self.assertEqual(told(laid, x), over)

    def test_turned_about_a_table_tells_the_same_in_other_words(self):
        for table in tables():
            turned = turned_about(table)
            rows = len(table)
            places = len(table[0])
            many = rows * places
            self.assertTrue(is_table(turned))
            self.assertEqual([number_by(turned, k) for k in range(many)],
                             [-number_by(table, many - 1 - k) for k in range(many)])
            for x in numbers_around(table):
                with self.subTest(table=table, x=x):
                    other = sorted((rows - 1 - row, places - 1 - place) for row, place in cells_of(table, x))
                    self.assertEqual(cells_of(turned, -x), other)
                    self.assertEqual(found_at(turned, -x) is None, found_at(table, x) is None)
                    self.assertEqual(count_less(turned, -x), many - count_most(table, x))
                    self.assertEqual(count_most(turned, -x), many - count_less(table, x))
                    self.assertEqual(stair_of(turned, -x), [places - step for step in high_stair(table, x)][::-1])
                    self.assertEqual(high_stair(turned, -x), [places - step for step in stair_of(table, x)][::-1])
                    self.assertEqual(count_from(turned, -x - 1, -x + 1), count_from(table, x - 1, x + 1))

    def test_both_are_walked_from_the_other_corner(self):
        for table in tables():
            for x in numbers_around(table):
                laid = [(place, row) for row, place in walk_for(laid_over(table), x)]
                turned = [(len(table) - 1 - row, len(table[0]) - 1 - place)
                          for row, place in walk_for(turned_about(table), -x)]
                self.assertEqual(laid, turned)

    def test_papers_are_turned_with_the_table(self):
        for table in tables():
            for x in numbers_around(table):
                paper = stair_paper(table, x)
                if paper is not None:
                    places = len(table[0])
                    over = [len([step for step in paper if step > place]) for place in range(places)]
                    self.assertTrue(paper_shows(laid_over(table), x, over))
                    self.assertTrue(paper_shows(turned_about(table), -x, [places - step for step in paper][::-1]))

    def test_the_fewest_looks_are_the_same_laid_over(self):
        for rows in range(1, 5):
            for places in range(1, 5):
                self.assertEqual(fewest_looks(rows, places), fewest_looks(places, rows))
                self.assertEqual(looks_left(rows, places, [0] * rows, [places] * rows), fewest_looks(rows, places))

    def test_spans_are_turned_with_the_table(self):
        for table in good_tables():
            keeper = Keeper(table)
            laid = Keeper(laid_over(table))
            turned = Keeper(turned_about(table))
            for row, place in cells_in(table):
                least, greatest = keeper.span((row, place))
                self.assertEqual(laid.span((place, row)), (least, greatest))
                other = (None if greatest is None else -greatest, None if least is None else -least)
                self.assertEqual(turned.span((len(table) - 1 - row, len(table[0]) - 1 - place)), other)


class ChangedTest(unittest.TestCase):
    def test_a_keeper_behind_changes_tells_as_one_made_anew(self):
        for table in good_tables():
            keeper = Keeper(table)
            for cell in cells_in(table)[:10] + cells_in(table)[-10:]:
                for bound, far in zip(keeper.span(cell), (-BIGGEST, BIGGEST)):
                    keeper.change(cell, far if bound is None else bound)
                    self.as_anew(keeper)
                keeper.undo()
                self.as_anew(keeper)

    def as_anew(self, keeper):
        table = keeper.table()
        self.assertTrue(is_table(table))
        anew = Keeper(table)
        self.assertEqual(anew.table(), table)
        for x in sorted({number for row in table for number in row}) + [BIG]:
            self.assertEqual([keeper.cells(x), cells_of(table, x)], [anew.cells(x)] * 2)
        for k in range(len(cells_in(table))):
            self.assertEqual([keeper.number(k), number_by(table, k)], [anew.number(k)] * 2)
        for cell in cells_in(table):
            self.assertEqual(keeper.span(cell), anew.span(cell))

    def test_a_desk_behind_changes_tells_as_of_the_shown_table(self):
        desk = Desk()
        desk.say("table t 0 2 4/2 4 6/4 6 8")
        for row in ("cell t 1 1 2", "cell t 0 0 -9", "cell t 2 2 6", "cell t 0 2 6", "cell t 1 1 6"):
            desk.say(row)
            anew = Desk()
            anew.say("table t " + desk.say("show t"))
            for x in range(-10, 11):
                for first in ("find", "stair", "walk", "below"):
                    asked = first + " t " + str(x)
                    self.assertEqual(desk.say(asked), anew.say(asked))
            for k in range(9):
                self.assertEqual(desk.say("nth t " + str(k)), anew.say("nth t " + str(k)))


class OwnTest(unittest.TestCase):
    def test_nothing_handed_in_is_changed_and_no_two_lists_told_are_one(self):
        alike = [3, 3]
        for table in good_tables() + [[alike, alike]]:
            before = repr(table)
            for x in (3, -1, 0):
                with self.subTest(table=table, x=x):
                    first = all_told(table, x)
                    second = all_told(table, x)
                    self.assertEqual(first, second)
                    self.assertEqual(repr(table), before)
                    lists = lists_within(first) + lists_within(second)
                    self.assertEqual(len({id(one) for one in lists}), len(lists))
                    self.assertFalse({id(one) for one in lists} & {id(one) for one in [table] + table})

    def test_what_the_asker_does_to_what_is_told_changes_nothing_told_later(self):
        for table in good_tables():
            before = all_told(table, 3)
            for one in lists_within(all_told(table, 3)):
                one.clear()
            self.assertEqual(all_told(table, 3), before)

    def test_lists_of_what_is_left_open_are_new(self):
        low = [0, 0]
        high = [2, 2]
        told = [open_after(2, 2, low, high, (0, 1), word) for word in ("less", "greater", "less")]
        lists = [low, high] + lists_within(told)[1:]
        self.assertEqual(len({id(one) for one in lists}), len(lists))
        self.assertEqual([low, high], [[0, 0], [2, 2]])

    def test_truths_are_no_whole_numbers_anywhere_in_a_table(self):
        self.assertFalse(is_table([[True]]))
        self.assertFalse(is_table([[0, True]]))
        self.assertTrue(is_table(read_table("0 1")))


if __name__ == "__main__":
    unittest.main()
