"""Stairs: how far the lesser numbers reach in each row, and stairs as papers that a number stands nowhere."""

from stairseek.tables import all_whole, cells_of, need_number, need_table, never_falls


def how_many_less(row, x):
    return len([number for number in row if number < x])


def how_many_at_most(row, x):
    return len([number for number in row if number <= x])


def stair_of(table, x):
    need_table(table)
    need_number(x)
    return [how_many_less(row, x) for row in table]


def high_stair(table, x):
    need_table(table)
    need_number(x)
    return [how_many_at_most(row, x) for row in table]


def is_stair(thing, rows, places):
    # Kinds come first: what is no whole number may not be compared.
    if not isinstance(thing, list) or len(thing) != rows or not all_whole(thing):
        return False
    if not all([0 <= step <= places for step in thing]):
        return False
    return never_falls(list(reversed(thing)))


def parts_row(row, step, x):
    return all([number < x for number in row[:step]]) and all([number > x for number in row[step:]])


def paper_shows(table, x, thing):
    need_table(table)
    need_number(x)
    if not is_stair(thing, len(table), len(table[0])):
        return False
    # Asked of the rows themselves, not of stair_of: a paper is worth nothing if its maker vouches for it.
    return all([parts_row(row, step, x) for row, step in zip(table, thing)])


def stair_paper(table, x):
    if cells_of(table, x):
        return None
    return stair_of(table, x)
