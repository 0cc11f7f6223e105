import inspect
import unittest

from helpers import BIG, BIGGEST, all_small_tables, ask, good_tables, no_tables, odd_things, refuse
from stairseek.errors import NoTable, NoText
from stairseek.texts import read_table, show_table

WRITTEN = (
    ([[0]], "0"),
    ([[7]], "7"),
    ([[-7]], "-7"),
    ([[10]], "10"),
    ([[-10]], "-10"),
    ([[1, 2, 3]], "1 2 3"),
    ([[1], [2], [3]], "1\n2\n3"),
    ([[1, 3], [2, 4]], "1 3\n2 4"),
    ([[-12, -1, 0], [-3, 0, 100]], "-12 -1 0\n-3 0 100"),
    ([[0, 0], [0, 0]], "0 0\n0 0"),
    ([[1, 2, 3, 4, 5, 6]], "1 2 3 4 5 6"),
    ([[1], [2], [3], [4], [5], [6]], "1\n2\n3\n4\n5\n6"),
    ([[123456789, 1234567890]], "123456789 1234567890"),
    ([[-BIGGEST, BIGGEST]], "-99999999999999999999999999 99999999999999999999999999"),
    ([[BIG]], "10000000000000000000000007"),
)


class InterfaceTest(unittest.TestCase):
    def test_arguments_are_named_as_told(self):
        self.assertEqual(list(inspect.signature(show_table).parameters), ["table"])
        self.assertEqual(list(inspect.signature(read_table).parameters), ["text"])


class ThereAndBackTest(unittest.TestCase):
    def test_as_written(self):
        for table, text in WRITTEN:
            with self.subTest(text=text):
                self.assertEqual(ask(self, show_table, table), text)
                self.assertEqual(ask(self, read_table, text), table)

    def test_there_and_back(self):
        for table in good_tables() + all_small_tables():
            with self.subTest(table=table):
                text = ask(self, show_table, table)
                self.assertIs(text.__class__, str)
                told = ask(self, read_table, text)
                self.assertEqual(told, table)
                self.assertIs(told.__class__, list)
                self.assertEqual({row.__class__ for row in told}, {list})
                self.assertEqual({number.__class__ for row in told for number in row}, {int})

    def test_all_sizes(self):
        for rows in range(1, 7):
            for places in range(1, 7):
                table = [[100 * row + 7 * place - 250 for place in range(places)] for row in range(rows)]
                text = show_table(table)
                self.assertEqual(text.count("\n"), rows - 1)
                self.assertEqual(text.count(" "), rows * (places - 1))
                self.assertEqual(read_table(text), table)

    def test_a_number_of_more_than_twenty_six_figures_that_stands_in_a_text(self):
        for figures in ("1" * 27, "9" * 60, "-" + "8" * 60, "-1" + "0" * 400, "7" * 1300):
            with self.subTest(figures=len(figures)):
                told = ask(self, read_table, figures)
                self.assertEqual(told, [[int(figures)]])
                self.assertEqual(ask(self, show_table, told), figures)
        long = "-" + "5" * 300 + " 0 " + "6" * 300 + "\n-1 0 " + "6" * 300
        self.assertEqual(show_table(read_table(long)), long)

    def test_a_told_table_is_the_askers_own(self):
        first = read_table("1 1\n1 1")
        second = read_table("1 1\n1 1")
        lists = [first, second] + first + second
        self.assertEqual(len({id(one) for one in lists}), len(lists))
        first[0][0] = 9
        first.pop()
        self.assertEqual(second, [[1, 1], [1, 1]])
        self.assertEqual(read_table("1 1\n1 1"), [[1, 1], [1, 1]])


class RefusalTest(unittest.TestCase):
    def none(self, *texts):
        for text in texts:
            with self.subTest(text=text):
                refuse(self, NoText, read_table, text)

    def test_show_of_what_is_no_table(self):
        for thing in no_tables() + ["1 2", "1"]:
            with self.subTest(thing=thing):
                refuse(self, NoTable, show_table, thing)

    def test_what_is_no_text(self):
        self.none(*[thing for thing in odd_things() if thing != "12"])
        self.none(0, 1, -1, BIG, [], [[1]], [["1"]], ["1"], ("1",), {"1": "1"}, b"1", b"1 2", bytearray(b"1"), {1})

    def test_nothing_and_blanks(self):
        self.none("", " ", "  ", "\n", "\n\n", " \n ", "\t", "\n1", " 1", "1 ", "  1", "1  ", "1  2", "1   2",
                  "1 2\n 3 4", "1 2 \n3 4", "1 2\n3 4 ", " 1 2\n3 4", "1  2\n3 4", "1 2\n3  4", "1 2\n \n3 4")

    def test_line_feeds(self):
        self.none("1\n", "1\n\n2", "\n1", "1 2\n3 4\n", "1 2\n\n3 4", "\n1 2\n3 4", "1 2\n3 4\n\n", "1\r\n2", "1\r2",
                  "1\n2\r", "1\x0b2", "1\x0c2")

    def test_rows_of_unlike_length(self):
        self.none("1 2\n3", "1\n2 3", "1 2 3\n4 5 6\n7 8", "1 2\n3 4\n5 6 7", "1\n2\n3 4")

    def test_rows_and_places_that_fall(self):
        self.none("2 1", "2\n1", "1 2\n0 3", "1 2\n2 1", "1 3\n2 2", "0 -1", "-1 -2", "10 9", "1 2 3\n4 5 6\n4 4 7",
                  "-1\n-2", "9" * 27 + " " + "9" * 26)

    def test_seven_rows_or_places(self):
        self.none("1 2 3 4 5 6 7", "1\n2\n3\n4\n5\n6\n7", "0 0 0 0 0 0 0", "\n".join(["1 2 3 4 5 6 7"] * 6),
                  "\n".join(["1 2 3 4 5 6"] * 7), " ".join(["1"] * 40))

    def test_what_is_no_number(self):
        for word in ("00", "01", "-0", "-00", "-01", "+1", "+0", "--1", "-", "+", "1-", "1-2", "- 1", "-+1", "007",
                     "a", "x1", "1x", "1.0", "1.", ".5", "1e2", "0x1", "1_0", "_1", "1,2", "1/2", "/", "1;", "~", "!",
                     "\t1", "1\t", "1\t2", "True", "None", "[1]", "(1)", "'1'", '"1"', "1:2", "=1", "1L", "0b1",
                     "-00001", "0 0x0", "one"):
            self.none(word, word + " 9", "-9 " + word, "-9\n" + word, word + "\n9", "-9 -8\n-7 " + word)

    def test_nought_by_itself_is_a_number(self):
        self.assertEqual(read_table("0 0 10"), [[0, 0, 10]])
        self.assertEqual(read_table("-10 0"), [[-10, 0]])


if __name__ == "__main__":
    unittest.main()
