import inspect
import unittest

from helpers import BIGGEST, all_small_tables, cells_in, good_tables, no_numbers, numbers_around, odd_things, refuse
from stairseek.desk import Desk
from stairseek.errors import NoCell, NoFit, NoName, NoPlace, NoRow, NoSize, NoText
from stairseek.looks import fewest_looks
from stairseek.order import count_less, number_by
from stairseek.stairs import stair_of
from stairseek.tables import cells_of
from stairseek.texts import show_table
from stairseek.walks import walk_for

TEXT = "1 3 5 7/3 3 6 9/4 8 8 9"
ROWS_OF_A_NAME = ("cell {} 0 0 1", "drop {}", "find {} 1", "stair {} 1", "walk {} 1", "below {} 1", "nth {} 0",
                  "show {}")
ALL_ROWS = ROWS_OF_A_NAME + ("table {} 1 2", "table {} x")
NO_NAMES = ("", "abcdefghi", "abcdefghij", "A", "Ab", "aB", "ABC", "a1", "1", "1a", "a_b", "a-b", "a.b", "_", "-",
            "a\t", "\ta", "a\n", "\na", "a/b", "a:b", "!", "~", "`", "{")


def desk_with(text):
    desk = Desk()
    desk.say("table t " + text)
    return desk


def state_of(desk):
    return [(name, desk.say("show " + name)) for name in desk.names()]


def written(cells):
    return " ".join(str(row) + ":" + str(place) for row, place in cells)


class DeskCase(unittest.TestCase):
    def says(self, desk, row, told):
        with self.subTest(row=row):
            answer = desk.say(row)
            self.assertIs(answer.__class__, str)
            self.assertEqual(answer, told)

    def refuses(self, desk, error, *rows):
        for row in rows:
            with self.subTest(row=row):
                before = state_of(desk)
                refuse(self, error, desk.say, row)
                self.assertEqual(state_of(desk), before)


class InterfaceTest(DeskCase):
    def test_arguments_are_named_as_told(self):
        self.assertEqual(list(inspect.signature(Desk).parameters), [])
        self.assertEqual(list(inspect.signature(Desk().say).parameters), ["row"])
        self.assertEqual(list(inspect.signature(Desk().names).parameters), [])


class TableTest(DeskCase):
    def test_a_table_is_put_and_shown(self):
        desk = Desk()
        for text in ("0", "-5", "1 2 3", "1/2/3", TEXT, "-3 -1 0/-2 0 4", "1 2 3 4 5 6", "1/2/3/4/5/6", "9" * 60,
                     "-" + "9" * 600 + " " + "9" * 600):
            self.says(desk, "table t " + text, "ok")
            self.says(desk, "show t", text)

    def test_six_by_six(self):
        text = "/".join([" ".join([str(10 * row + place) for place in range(6)]) for row in range(6)])
        desk = desk_with(text)
        self.says(desk, "show t", text)

    def test_in_the_place_of_what_stood_by_the_name(self):
        desk = Desk()
        self.says(desk, "table b 1 2", "ok")
        self.says(desk, "table a 3 4", "ok")
        self.says(desk, "table b 5/6", "ok")
        self.says(desk, "show b", "5/6")
        self.says(desk, "show a", "3 4")
        self.assertEqual(desk.names(), ["a", "b"])

    def test_a_text_that_writes_none(self):
        texts = ("", " ", "  ", " 1", "1 ", "1  2", "/", "1/", "/1", "1//2", "1 2/3", "1/2 3", "2 1", "2/1", "1 2/0 3",
                 "1 2 3 4 5 6 7", "1/2/3/4/5/6/7", "00", "01", "-0", "+1", "1\t2", "\t1", "1\t", "a", "1.0", "1 a",
                 "1\n2", "1\n", "\n1", "\n", "1 2\n3 4", "1 2/3 4\n5 6", "1\\n2", "1 /2", "1/ 2", "1,2", "table a 1",
                 "--1", "-", "1/2\n", "1\n/2")
        for desk in (Desk(), desk_with("7 8")):
            for text in texts:
                self.refuses(desk, NoText, "table t " + text, "table other " + text)

    def test_without_the_blank_behind_the_name_it_is_no_such_row(self):
        for desk in (Desk(), desk_with("7 8")):
            self.refuses(desk, NoRow, "table t", "table", "table ", "table  ", "table  t", "table  t 1", " table t 1",
                         "table\tt 1", "table t\t1", "table\nt 1", "table t\n1", "tablet 1", "table t\n", "table  1",
                         "table 1", "table 1 2", "table 1 2/3 4", "Table t 1", "TABLE t 1", "table/t 1")
            self.refuses(desk, NoText, "table t ", "table u ")

    def test_what_was_refused_leaves_what_stood_by_the_name(self):
        desk = desk_with("7 8")
        self.refuses(desk, NoText, "table t 8 7", "table t ", "table t 7\n8")
        self.says(desk, "show t", "7 8")
        self.assertEqual(desk.names(), ["t"])


class NameTest(DeskCase):
    def test_names_of_one_to_eight_letters(self):
        for name in ("a", "z", "m", "az", "abc", "abcdefgh", "zzzzzzzz", "table", "cell", "none", "show", "looks"):
            desk = Desk()
            self.says(desk, "table " + name + " 1 2", "ok")
            self.assertEqual(desk.names(), [name])
            self.says(desk, "cell " + name + " 0 0 -3", "ok")
            self.says(desk, "show " + name, "-3 2")
            self.says(desk, "find " + name + " 2", "0:1")
            self.says(desk, "stair " + name + " 0", "1")
            self.says(desk, "walk " + name + " 2", "0:1")
            self.says(desk, "below " + name + " 2", "1")
            self.says(desk, "nth " + name + " 1", "2")
            self.says(desk, "drop " + name, "ok")
            self.assertEqual(desk.names(), [])

    def test_each_small_letter(self):
        desk = Desk()
        letters = "abcdefghijklmnopqrstuvwxyz"
        for letter in letters[:20]:
            self.says(desk, "table " + letter + " 1", "ok")
        self.assertEqual(desk.names(), list(letters[:20]))
        for letter in letters[20:]:
            self.refuses(desk, NoName, "show " + letter)
        other = Desk()
        for letter in reversed(letters[6:]):
            self.says(other, "table " + letter + " 1", "ok")
        self.assertEqual(other.names(), list(letters[6:]))

    def test_no_such_names(self):
        for desk in (Desk(), desk_with(TEXT)):
            for name in NO_NAMES:
                for row in ALL_ROWS:
                    self.refuses(desk, NoRow, row.replace("{}", name))

    def test_a_name_by_which_no_table_stands(self):
        for desk in (Desk(), desk_with(TEXT)):
            for name in ("a", "tt", "table", "abcdefgh", "s", "u"):
                for row in ROWS_OF_A_NAME:
                    self.refuses(desk, NoName, row.replace("{}", name))

    def test_names_in_the_order_of_letters(self):
        desk = Desk()
        self.assertEqual(desk.names(), [])
        for name in ("b", "abc", "ab", "z", "a", "zz", "b"):
            desk.say("table " + name + " 1")
        self.assertEqual(desk.names(), ["a", "ab", "abc", "b", "z", "zz"])
        self.assertIs(desk.names().__class__, list)
        desk.say("drop ab")
        self.assertEqual(desk.names(), ["a", "abc", "b", "z", "zz"])
        desk.say("table ab 1")
        self.assertEqual(desk.names(), ["a", "ab", "abc", "b", "z", "zz"])

    def test_a_told_list_of_names_is_the_askers_own(self):
        desk = desk_with("1")
        first = desk.names()
        second = desk.names()
        self.assertIsNot(first, second)
        first.append("x")
        first.remove("t")
        self.assertEqual(second, ["t"])
        self.assertEqual(desk.names(), ["t"])
        self.refuses(desk, NoName, "show x")
        desk.say("table u 1")
        self.assertEqual(second, ["t"])

    def test_two_desks_are_apart(self):
        one = desk_with("1 2")
        other = Desk()
        self.assertEqual(other.names(), [])
        self.refuses(other, NoName, "show t")
        other.say("table t 5 6")
        one.say("cell t 0 0 0")
        self.says(other, "show t", "5 6")
        other.say("drop t")
        self.says(one, "show t", "0 2")


class CellTest(DeskCase):
    def test_the_number_becomes_x(self):
        desk = desk_with(TEXT)
        self.says(desk, "cell t 1 2 5", "ok")
        self.says(desk, "show t", "1 3 5 7/3 3 5 9/4 8 8 9")
        self.says(desk, "cell t 2 3 999999999", "ok")
        self.says(desk, "cell t 0 0 -999999999", "ok")
        self.says(desk, "cell t 1 1 3", "ok")
        self.says(desk, "show t", "-999999999 3 5 7/3 3 5 9/4 8 8 999999999")
        self.says(desk, "cell t 0 0 0", "ok")
        self.says(desk, "show t", "0 3 5 7/3 3 5 9/4 8 8 999999999")

    def test_what_is_told_later_is_as_of_the_new_table(self):
        desk = desk_with(TEXT)
        desk.say("cell t 2 0 8")
        self.says(desk, "find t 4", "none")
        self.says(desk, "find t 8", "2:0 2:1 2:2")
        self.says(desk, "below t 8", "7")
        self.says(desk, "stair t 8", "4 3 0")
        self.says(desk, "nth t 4", "5")
        self.says(desk, "walk t 4", "0:3 0:2 0:1 1:1 2:1 2:0")

    def test_no_cell_and_no_fit(self):
        desk = desk_with(TEXT)
        self.refuses(desk, NoCell, "cell t 3 0 5", "cell t 0 4 5", "cell t 99 99 5", "cell t 10 0 1", "cell t 3 0 -100",
                     "cell t 0 10 1", "cell t 4 3 999999999")
        self.refuses(desk, NoFit, "cell t 0 0 4", "cell t 2 3 8", "cell t 1 1 2",
                     "cell t 1 1 7", "cell t 1 1 -5", "cell t 1 1 999999999")

    def test_many_changes(self):
        desk = desk_with("0 0/0 0")
        for k in range(1, 100):
            self.assertEqual(desk.say("cell t 1 1 " + str(k)), "ok")
        self.says(desk, "show t", "0 0/0 99")


class DropTest(DeskCase):
    def test_a_dropped_table_stands_no_more(self):
        desk = desk_with(TEXT)
        desk.say("table u 1")
        self.says(desk, "drop t", "ok")
        self.assertEqual(desk.names(), ["u"])
        for row in ROWS_OF_A_NAME:
            self.refuses(desk, NoName, row.replace("{}", "t"))
        self.says(desk, "show u", "1")
        self.says(desk, "table t 2", "ok")
        self.says(desk, "show t", "2")


class AskedTest(DeskCase):
    def test_find(self):
        desk = desk_with(TEXT)
        self.says(desk, "find t 3", "0:1 1:0 1:1")
        self.says(desk, "find t 1", "0:0")
        self.says(desk, "find t 9", "1:3 2:3")
        for x in ("2", "0", "-3", "10", "-999999999", "999999999"):
            self.says(desk, "find t " + x, "none")

    def test_stair(self):
        desk = desk_with(TEXT)
        self.says(desk, "stair t 8", "4 3 1")
        self.says(desk, "stair t 3", "1 0 0")
        self.says(desk, "stair t -1", "0 0 0")
        self.says(desk, "stair t 999999999", "4 4 4")
        self.says(desk_with("5"), "stair t 5", "0")

    def test_walk(self):
        desk = desk_with(TEXT)
        self.says(desk, "walk t 8", "0:3 1:3 1:2 2:2")
        self.says(desk, "walk t 7", "0:3")
        self.says(desk, "walk t 2", "0:3 0:2 0:1 0:0 1:0")
        self.says(desk, "walk t 99", "0:3 1:3 2:3")
        self.says(desk_with("5"), "walk t -5", "0:0")

    def test_below(self):
        desk = desk_with(TEXT)
        for x, many in ((1, 0), (2, 1), (3, 1), (4, 4), (8, 8), (9, 10), (10, 12), (-7, 0)):
            self.says(desk, "below t " + str(x), str(many))

    def test_nth(self):
        desk = desk_with(TEXT)
        for k, number in enumerate((1, 3, 3, 3, 4, 5, 6, 7, 8, 8, 9, 9)):
            self.says(desk, "nth t " + str(k), str(number))
        self.refuses(desk, NoPlace, "nth t 12", "nth t 13", "nth t 99")
        self.says(desk_with("-40 -3"), "nth t 0", "-40")
        self.says(desk_with("9" * 60), "nth t 0", "9" * 60)

    def test_looks(self):
        desk = Desk()
        for rows in range(1, 5):
            for places in range(1, 5):
                self.says(desk, "looks " + str(rows) + " " + str(places), str(fewest_looks(rows, places)))
        self.says(desk, "looks 1 1", "1")
        self.says(desk, "looks 2 2", "3")
        self.says(desk, "looks 3 4", "6")
        self.refuses(desk, NoSize, "looks 0 1", "looks 1 0", "looks 0 0", "looks 5 1", "looks 1 5", "looks 10 4",
                     "looks 4 10", "looks 99 99", "looks 4 5", "looks 5 4")

    def test_as_the_other_stages_tell(self):
        for table in good_tables() + all_small_tables()[::11]:
            desk = desk_with(show_table(table).replace("\n", "/"))
            for x in [x for x in numbers_around(table) if abs(x) < 10 ** 9]:
                row = " t " + str(x)
                self.assertEqual(desk.say("find" + row), written(cells_of(table, x)) or "none")
                self.assertEqual(desk.say("stair" + row), " ".join(str(step) for step in stair_of(table, x)))
                self.assertEqual(desk.say("walk" + row), written(walk_for(table, x)))
                self.assertEqual(desk.say("below" + row), str(count_less(table, x)))
            for k in range(len(cells_in(table))):
                self.assertEqual(desk.say("nth t " + str(k)), str(number_by(table, k)))
            self.assertEqual(desk.say("show t"), show_table(table).replace("\n", "/"))

    def test_the_same_asked_again_is_answered_the_same(self):
        desk = desk_with(TEXT)
        for row in ("find t 3", "find t 2", "stair t 8", "walk t 8", "below t 8", "nth t 4", "show t", "looks 3 4"):
            self.assertEqual(desk.say(row), desk.say(row))
        self.says(desk, "show t", TEXT)


class WordTest(DeskCase):
    def test_counts_of_one_and_two_figures(self):
        desk = desk_with(TEXT)
        self.says(desk, "nth t 0", "1")
        self.says(desk, "nth t 9", "8")
        self.says(desk, "nth t 10", "9")
        self.says(desk, "nth t 11", "9")
        for row in ("nth t {}", "cell t {} 0 1", "cell t 0 {} 1", "looks {} 1", "looks 1 {}"):
            for word in ("100", "123", "999", "1000", "00", "01", "09", "000", "-1", "-0", "-10", "+1", "", "a", "1a",
                         "x", "1.", "1.0", "1:1", "-", "--1", "1\t", "\t1", "1\n", "\n1", "1_1", "0x1", "1,", "/"):
                self.refuses(desk, NoRow, row.replace("{}", word))

    def test_numbers_of_one_to_nine_figures(self):
        desk = desk_with("-999999999 -1 0/-1 0 999999999")
        for figures in range(1, 10):
            self.says(desk, "below t " + "9" * figures, "5")
            self.says(desk, "below t -" + "9" * figures, "0" if figures == 9 else "1")
            self.says(desk, "find t 1" + "0" * (figures - 1), "none")
            self.says(desk, "find t -" + "2" * figures, "none")
        self.says(desk, "find t 0", "0:2 1:1")
        self.says(desk, "find t -1", "0:1 1:0")
        self.says(desk, "find t 999999999", "1:2")
        self.says(desk, "find t -999999999", "0:0")

    def test_what_is_no_number_of_a_row(self):
        desk = desk_with(TEXT)
        for row in ("find t {}", "stair t {}", "walk t {}", "below t {}", "cell t 0 0 {}"):
            for word in ("1000000000", "-1000000000", "9999999999", "-9999999999", "12345678901", "0000000000", "-0",
                         "00", "01", "-01", "-00", "000000001", "+1", "+0", "--1", "-", "1-", "-1-", "", "a", "1a",
                         "a1", "1.0", "1.", ".1", "1e3", "0x1", "1_0", "1,0", "1/2", "none", "\t1", "1\t", "1\n",
                         "\n1", "-\n1", "1:1", str(BIGGEST), "True", "X"):
                self.refuses(desk, NoRow, row.replace("{}", word))


class RowTest(DeskCase):
    def test_what_is_no_text(self):
        for desk in (Desk(), desk_with(TEXT)):
            self.refuses(desk, NoRow, *odd_things())
            self.refuses(desk, NoRow, *no_numbers())
            self.refuses(desk, NoRow, 0, 1, -1, BIGGEST, ["show t"], ("show t",), ["show", "t"], [["show t"]],
                         b"show t", bytearray(b"show t"), {"show t": "show t"}, {"show t"}, [[[[["show t"]]]]])

    def test_unknown_first_words(self):
        for desk in (Desk(), desk_with(TEXT)):
            self.refuses(desk, NoRow, "", " ", "  ", "\n", "\t", "t", "names", "names t", "say", "undo t", "help",
                         "list", "Find t 3", "FIND t 3", "finds t 3", "fin t 3", "high t 3", "span t 0 0",
                         "number t 0", "cells t 3", "show-t", "show:t", "showt", "lay t", "ok", "none", "middle t",
                         "merged t", "look 1 1", "NAME", "3", "- t 1", "__init__ t", "tables t 1")

    def test_too_few_and_too_many_words(self):
        for desk in (Desk(), desk_with(TEXT)):
            self.refuses(desk, NoRow, "cell", "cell t", "cell t 0", "cell t 0 0", "cell t 0 0 1 1", "drop", "drop t t",
                         "drop t 1", "find", "find t", "find t 1 1", "find 1", "find 1 t", "stair", "stair t",
                         "stair t 1 1", "walk", "walk t", "walk t 1 1", "below", "below t", "below t 1 1", "nth",
                         "nth t", "nth t 1 1", "show", "show t t", "show t 1", "looks", "looks 1", "looks 1 1 1",
                         "looks t 1 1", "looks t", "looks 1 t", "cell 0 0 t 1", "cell 0 0 1", "find t none")

    def test_blanks(self):
        rows = ("cell t 0 0 1", "drop t", "find t 3", "stair t 3", "walk t 3", "below t 3", "nth t 0", "show t",
                "looks 1 1")
        for desk in (Desk(), desk_with(TEXT)):
            for row in rows:
                self.refuses(desk, NoRow, " " + row, row + " ", "  " + row, row + "  ", " " + row + " ")
                self.refuses(desk, NoRow, row + "\n", "\n" + row, row + "\t", "\t" + row, row + "\n" + row)
                for k, sign in enumerate(row):
                    if sign == " ":
                        self.refuses(desk, NoRow, row[:k] + " " + row[k:], row[:k] + "\t" + row[k + 1:],
                                     row[:k] + "\n" + row[k + 1:], row[:k] + row[k + 1:])


class OrderTest(DeskCase):
    def test_no_row_comes_ahead_of_no_name(self):
        desk = desk_with(TEXT)
        self.refuses(desk, NoRow, "find u 01", "find u", "show u ", "drop u u", "nth u 100", "cell u 0 0 -0",
                     "cell u -1 0 0", "walk u  1", "below u x", "stair u 1000000000")

    def test_no_row_comes_ahead_of_no_text(self):
        desk = desk_with(TEXT)
        self.refuses(desk, NoRow, "table T x", "table abcdefghi x", "table  x", "table 1 x", "table x")

    def test_no_row_comes_ahead_of_what_the_stages_refuse(self):
        desk = desk_with(TEXT)
        self.refuses(desk, NoRow, "cell t 9 9 01", "cell t 9 9 -0", "nth t 99 ", "looks 9 01", "looks 0 -1",
                     "cell t 9 100 1", "cell t 1 1 1000000000", "looks 9 9 9")

    def test_no_name_comes_ahead_of_what_the_stages_refuse(self):
        desk = desk_with(TEXT)
        self.refuses(desk, NoName, "cell u 9 9 1", "cell u 0 0 999999999", "nth u 99", "cell u 99 0 -5")

    def test_no_cell_comes_ahead_of_no_fit(self):
        desk = desk_with(TEXT)
        self.refuses(desk, NoCell, "cell t 9 0 999999999", "cell t 0 9 999999999", "cell t 3 3 -999999999")

    def test_a_table_by_a_new_name_is_no_matter_of_no_name(self):
        desk = desk_with(TEXT)
        self.refuses(desk, NoText, "table u x", "table u ")
        self.says(desk, "table u 1", "ok")


if __name__ == "__main__":
    unittest.main()
