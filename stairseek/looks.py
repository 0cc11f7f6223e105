"""The fewest looks: what a look leaves open, and how few looks find a number whatever stands in the table."""

from stairseek.errors import NoLook, NoSize, NoStair
from stairseek.stairs import is_stair
from stairseek.tables import is_cell_of_size, is_whole

MOST_TO_A_SIDE = 4


def is_side(thing):
    return is_whole(thing) and 1 <= thing <= MOST_TO_A_SIDE


def need_size(r, p):
    if not is_side(r) or not is_side(p):
        raise NoSize("this is no size of a table to be looked at")


def is_at_no_row_above(low, high):
    return all([lower <= higher for lower, higher in zip(low, high)])


def need_stairs(r, p, low, high):
    # Both are stairs before they are held against one another: other things may not be compared.
    if not is_stair(low, r, p) or not is_stair(high, r, p) or not is_at_no_row_above(low, high):
        raise NoStair("these are no two stairs that tell what is open")


def is_left_open(low, high, cell):
    return low[cell[0]] <= cell[1] < high[cell[0]]


def need_look(r, p, low, high, cell, word):
    if not is_cell_of_size(r, p, cell) or not is_left_open(low, high, cell):
        raise NoLook("this is no open cell")
    if not isinstance(word, str) or word not in ("less", "greater"):
        raise NoLook("a look tells less or greater")


def high_after_less(high, cell):
    return [min(step, cell[1]) if row >= cell[0] else step for row, step in enumerate(high)]


def low_after_greater(low, cell):
    return [max(step, cell[1] + 1) if row <= cell[0] else step for row, step in enumerate(low)]


def open_after(r, p, low, high, cell, word):
    need_size(r, p)
    need_stairs(r, p, low, high)
    need_look(r, p, low, high, cell, word)
    if word == "less":
        return (list(low), high_after_less(high, cell))
    return (low_after_greater(low, cell), list(high))


def bits_of_cells(r, p):
    bits = {}
    bit = 1
    for row in range(r):
        for place in range(p):
            bits[(row, place)] = bit
            bit += bit
    return bits


def left_by_less(bits, cell):
    return sum([bits[other] for other in bits if other[0] < cell[0] or other[1] < cell[1]])


def left_by_greater(bits, cell):
    return sum([bits[other] for other in bits if other[0] > cell[0] or other[1] > cell[1]])


class Reckoning:
    # What is left open is one whole number, a bit for each cell: two pairs of stairs that leave the same cells
    # open are then one, and what was reckoned of it is found again.

    def __init__(self, r, p):
        self.bits = bits_of_cells(r, p)
        self.looks = [(cell, left_by_less(self.bits, cell), left_by_greater(self.bits, cell)) for cell in self.bits]
        self.known = {0: 0}

    def left_between(self, low, high):
        return sum([self.bits[cell] for cell in self.bits if is_left_open(low, high, cell)])

    def fewest(self, left):
        if left not in self.known:
            self.known[left] = min([self.fewest_through(left, look) for look in self.looks_at(left)])
        return self.known[left]

    def looks_at(self, left):
        return [look for look in self.looks if left & self.bits[look[0]]]

    def fewest_through(self, left, look):
        return 1 + max(self.fewest(left & look[1]), self.fewest(left & look[2]))

    def first_cell(self, left):
        for look in self.looks_at(left):
            if self.fewest_through(left, look) == self.fewest(left):
                return look[0]
        return None


def looks_left(r, p, low, high):
    need_size(r, p)
    need_stairs(r, p, low, high)
    reckoning = Reckoning(r, p)
    return reckoning.fewest(reckoning.left_between(low, high))


def best_look(r, p, low, high):
    need_size(r, p)
    need_stairs(r, p, low, high)
    reckoning = Reckoning(r, p)
    return reckoning.first_cell(reckoning.left_between(low, high))


def fewest_looks(r, p):
    need_size(r, p)
    return looks_left(r, p, [0] * r, [p] * r)
