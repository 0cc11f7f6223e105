"""A table laid over, rows as places, and turned about with other signs."""

from stairseek.tables import need_table, numbers_at_place


def laid_over(table):
    need_table(table)
    return [numbers_at_place(table, place) for place in range(len(table[0]))]


def turned_row(row):
    return [-number for number in reversed(row)]


def turned_about(table):
    need_table(table)
    return [turned_row(row) for row in reversed(table)]
