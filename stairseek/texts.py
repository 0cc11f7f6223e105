"""Tables as texts: rows with line feeds between, numbers with blanks between."""

from stairseek.errors import NoText
from stairseek.tables import is_table, need_table

FIGURES = "0123456789"


def writes_count(word):
    # Not asked with isdigit: that lets figures of other scripts by.
    if word == "" or not all([sign in FIGURES for sign in word]):
        return False
    return word == "0" or word[0] != "0"


def writes_number(word):
    if word.startswith("-"):
        return word != "-0" and writes_count(word[1:])
    return writes_count(word)


def show_row(row):
    return " ".join([str(number) for number in row])


def show_table(table):
    need_table(table)
    return "\n".join([show_row(row) for row in table])


def read_row(line):
    words = line.split(" ")
    if not all([writes_number(word) for word in words]):
        raise NoText("this is no row of numbers")
    return [int(word) for word in words]


def read_table(text):
    if not isinstance(text, str):
        raise NoText("this is no text")
    table = [read_row(line) for line in text.split("\n")]
    if not is_table(table):
        raise NoText("this text writes no table")
    return table
