"""The walk for a number: from the last place of the first row to the left and down."""

from stairseek.tables import need_number, need_table, number_at


def walk_for(table, x):
    need_table(table)
    need_number(x)
    looked_at = []
    row = 0
    place = len(table[0]) - 1
    while row < len(table) and place >= 0:
        looked_at.append((row, place))
        number = table[row][place]
        if x == number:
            break
        # All below what is greater than x is greater too, and all to the left of what is less is less too.
        if x < number:
            place -= 1
        else:
            row += 1
    return looked_at


def found_at(table, x):
    # No walk is empty, and it goes on behind no cell at which x stands: if x was found, then at the last one.
    last = walk_for(table, x)[-1]
    return last if number_at(table, last) == x else None
