"""The so-manieth number of a table, how many are less, at most and between, and all rows merged."""

from stairseek.errors import NoPlace
from stairseek.stairs import high_stair, stair_of
from stairseek.tables import is_whole, need_table


def how_many_cells(table):
    return len(table) * len(table[0])


def merged(table):
    need_table(table)
    entries = []
    for row, numbers in enumerate(table):
        entries.extend([(number, row, place) for place, number in enumerate(numbers)])
    return sorted(entries)


def need_place(table, thing):
    if not is_whole(thing) or not 0 <= thing < how_many_cells(table):
        raise NoPlace("this is no place in the order of the table's numbers")


def number_by(table, k):
    need_table(table)
    need_place(table, k)
    return merged(table)[k][0]


def middle(table):
    need_table(table)
    return number_by(table, (how_many_cells(table) - 1) // 2)


def count_less(table, x):
    return sum(stair_of(table, x))


def count_most(table, x):
    return sum(high_stair(table, x))


def count_from(table, a, b):
    # Where a is above b, all that are at most b are less than a too: the difference is then 0 or below.
    return max(0, count_most(table, b) - count_less(table, a))
