"""Tables sorted both ways: whether a thing is one, what stands at a cell, where a number stands."""

from stairseek.errors import NoCell, NoNumber, NoTable

MOST_ROWS = 6
MOST_PLACES = 6


def is_whole(thing):
    # To Python a truth is an int; to the document it is no whole number.
    return isinstance(thing, int) and not isinstance(thing, bool)


def all_whole(things):
    return all([is_whole(thing) for thing in things])


def never_falls(numbers):
    return all([numbers[k - 1] <= numbers[k] for k in range(1, len(numbers))])


def is_row(thing):
    return isinstance(thing, list) and 1 <= len(thing) <= MOST_PLACES and all_whole(thing)


def has_table_shape(thing):
    if not isinstance(thing, list) or not 1 <= len(thing) <= MOST_ROWS:
        return False
    # What is no row may have no length, so lengths are asked only once all are rows.
    if not all([is_row(row) for row in thing]):
        return False
    return all([len(row) == len(thing[0]) for row in thing])


def numbers_at_place(table, place):
    return [row[place] for row in table]


def is_sorted_both_ways(table):
    if not all([never_falls(row) for row in table]):
        return False
    return all([never_falls(numbers_at_place(table, place)) for place in range(len(table[0]))])


def is_table(thing):
    # Numbers are compared only behind the shape: before that they may be of any kind.
    return has_table_shape(thing) and is_sorted_both_ways(thing)


def is_cell_of_size(rows, places, thing):
    if not isinstance(thing, tuple) or len(thing) != 2 or not all_whole(thing):
        return False
    return 0 <= thing[0] < rows and 0 <= thing[1] < places


def is_cell(table, thing):
    return is_cell_of_size(len(table), len(table[0]), thing)


def need_table(thing):
    if not is_table(thing):
        raise NoTable("this is no table")


def need_cell(table, thing):
    if not is_cell(table, thing):
        raise NoCell("this is no cell of the table")


def need_number(thing):
    if not is_whole(thing):
        raise NoNumber("this is no whole number")


def number_at(table, cell):
    need_table(table)
    need_cell(table, cell)
    return table[cell[0]][cell[1]]


def cells_of(table, x):
    need_table(table)
    need_number(x)
    cells = []
    for row, numbers in enumerate(table):
        cells.extend([(row, place) for place, number in enumerate(numbers) if number == x])
    return cells
