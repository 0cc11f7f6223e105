"""A Keeper: a table whose numbers are changed one by one, and the changes undone."""

from stairseek.errors import NoChange, NoFit
from stairseek.order import number_by
from stairseek.tables import cells_of, is_cell, is_table, need_cell, need_number, need_table, number_at


def copy_of(table):
    return [list(row) for row in table]


def table_with(table, cell, x):
    changed = copy_of(table)
    changed[cell[0]][cell[1]] = x
    return changed


def changed_table(table, cell, x):
    need_cell(table, cell)
    need_number(x)
    changed = table_with(table, cell, x)
    if not is_table(changed):
        raise NoFit("with this number at the cell it would be no table any more")
    return changed


def numbers_beside(table, beside):
    return [number_at(table, cell) for cell in beside if is_cell(table, cell)]


def span_of(table, cell):
    need_cell(table, cell)
    row = cell[0]
    place = cell[1]
    # The table is sorted, so what lies further off bounds no more than the next ones do.
    ahead = numbers_beside(table, [(row - 1, place), (row, place - 1)])
    behind = numbers_beside(table, [(row + 1, place), (row, place + 1)])
    return (max(ahead, default=None), min(behind, default=None))


class Keeper:
    def __init__(self, table):
        need_table(table)
        self.rows = copy_of(table)
        self.changes = []

    def change(self, cell, x):
        rows = changed_table(self.rows, cell, x)
        before = number_at(self.rows, cell)
        self.rows = rows
        self.changes.append((cell, before))
        return (before, x)

    def undo(self):
        if len(self.changes) == 0:
            raise NoChange("no change is left to be undone")
        last = self.changes.pop()
        before = number_at(self.rows, last[0])
        # No look whether it fits: this is the table that stood ahead of the change.
        self.rows = table_with(self.rows, last[0], last[1])
        return (before, last[1])

    def table(self):
        return copy_of(self.rows)

    def cells(self, x):
        return cells_of(self.rows, x)

    def number(self, k):
        return number_by(self.rows, k)

    def span(self, cell):
        return span_of(self.rows, cell)
