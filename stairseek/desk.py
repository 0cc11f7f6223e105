"""A desk: tables by names, asked and changed by rows of words."""

from stairseek.errors import NoName, NoRow, NoText
from stairseek.keeper import changed_table
from stairseek.looks import fewest_looks
from stairseek.order import count_less, number_by
from stairseek.stairs import stair_of
from stairseek.tables import cells_of
from stairseek.texts import read_table, show_row, show_table, writes_count, writes_number
from stairseek.walks import walk_for

SMALL_LETTERS = "abcdefghijklmnopqrstuvwxyz"
MOST_LETTERS = 8
MOST_FIGURES_OF_COUNT = 2
MOST_FIGURES_OF_NUMBER = 9

# For each first word, what stands behind it, in the document's own words.
FORMS = {
    "table": ("NAME", "TEXT"),
    "cell": ("NAME", "R", "C", "X"),
    "drop": ("NAME",),
    "find": ("NAME", "X"),
    "stair": ("NAME", "X"),
    "walk": ("NAME", "X"),
    "below": ("NAME", "X"),
    "nth": ("NAME", "K"),
    "show": ("NAME",),
    "looks": ("R", "P"),
}


def is_name(word):
    return 1 <= len(word) <= MOST_LETTERS and all([sign in SMALL_LETTERS for sign in word])


def is_short_count(word):
    return writes_count(word) and len(word) <= MOST_FIGURES_OF_COUNT


def is_short_number(word):
    return writes_number(word) and len(word.lstrip("-")) <= MOST_FIGURES_OF_NUMBER


def is_written_as(kind, word):
    if kind == "NAME":
        return is_name(word)
    if kind == "X":
        return is_short_number(word)
    # Whether a TEXT writes a table is asked later: it is no matter of the row's form.
    return kind == "TEXT" or is_short_count(word)


def split_row(row):
    # A TEXT has blanks of its own, so it is all that is left behind the second one.
    if row.startswith("table "):
        return row.split(" ", 2)
    return row.split(" ")


def has_form(words):
    if words[0] not in FORMS or len(words) != len(FORMS[words[0]]) + 1:
        return False
    return all([is_written_as(kind, word) for kind, word in zip(FORMS[words[0]], words[1:])])


def words_of(row):
    if not isinstance(row, str):
        raise NoRow("this is no text")
    words = split_row(row)
    if not has_form(words):
        raise NoRow("this is no row that a desk knows")
    return words


def read_slashed(text):
    # A line feed would read as well as the / that stands for it.
    if "\n" in text:
        raise NoText("a line feed in a row writes no table")
    return read_table(text.replace("/", "\n"))


def show_cells(cells):
    return " ".join([f"{row}:{place}" for row, place in cells])


def show_found(cells):
    return show_cells(cells) if cells else "none"


def answer_of(table, first, x):
    if first == "find":
        return show_found(cells_of(table, x))
    if first == "stair":
        return show_row(stair_of(table, x))
    if first == "walk":
        return show_cells(walk_for(table, x))
    if first == "below":
        return str(count_less(table, x))
    return str(number_by(table, x))


class Desk:
    def __init__(self):
        self.tables = {}

    def names(self):
        return sorted(self.tables)

    def say(self, row):
        words = words_of(row)
        if words[0] == "looks":
            return str(fewest_looks(int(words[1]), int(words[2])))
        if words[0] == "table":
            self.tables[words[1]] = read_slashed(words[2])
            return "ok"
        if words[1] not in self.tables:
            raise NoName("no table stands by this name")
        return self.say_of_table(words)

    def say_of_table(self, words):
        table = self.tables[words[1]]
        if words[0] == "cell":
            self.tables[words[1]] = changed_table(table, (int(words[2]), int(words[3])), int(words[4]))
            return "ok"
        if words[0] == "drop":
            self.tables.pop(words[1])
            return "ok"
        if words[0] == "show":
            return show_table(table).replace("\n", "/")
        return answer_of(table, words[0], int(words[2]))
