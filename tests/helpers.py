"""What the tests share: tables, things that are none, and ways to ask."""

import itertools

from stairseek.errors import SeekError

BIG = 10 ** 25 + 7
BIGGEST = 10 ** 26 - 1


def good_tables():
    return [
        [[0]],
        [[-7]],
        [[BIGGEST]],
        [[-BIGGEST]],
        [[5, 5]],
        [[5], [5]],
        [[1, 2, 3, 4, 5, 6]],
        [[1], [2], [3], [4], [5], [6]],
        [[-3, -1, 0], [-2, -1, 4]],
        [[1, 4, 7], [2, 5, 8], [3, 6, 9]],
        [[1, 3, 5, 7], [3, 3, 6, 9], [4, 8, 8, 9]],
        [[-BIGGEST, -BIG, 0], [-BIG, 0, BIG], [0, BIG, BIGGEST]],
        [[2, 2, 2], [2, 2, 2], [2, 2, 2], [2, 2, 2]],
        [[10 * row + place for place in range(6)] for row in range(6)],
        [[row + place for place in range(6)] for row in range(6)],
        [[row * place - 9 for place in range(5)] for row in range(6)],
        [[3 * (row + place) for place in range(6)] for row in range(5)],
    ]


def odd_things():
    return [None, True, False, "", "x", "12", b"", b"1", (), {}, set(), frozenset([1]), object(), len, int,
            range(3), ValueError("x"), iter([1]), ..., NotImplemented]


def no_tables():
    seven = [[k] for k in range(7)]
    shapes = [
        [], [[]], [[], []], [[1], []], [[], [1]], seven, [[0, 1, 2, 3, 4, 5, 6]], seven + [[7]],
        [[1, 2], [3, 4, 5]], [[1, 2], [3]], [[1], [2], [3, 4]], [[1, 2], [3, 4], [5]],
        ([1],), ([1, 2], [3, 4]), [(1,)], [(1, 2), (3, 4)], [[1, 2], (3, 4)], [[[1]]], [[1, [2]]], [[(1,)]],
        [1], [1, 2], 0, 7, -1, BIG, ["1"], ["12", "34"], "[[1]]", [{0: 1}], {0: [1]}, [{1}], [range(3)],
    ]
    kinds = []
    for odd in odd_things():
        kinds.extend([odd, [odd], [[odd]], [[0, odd]], [[odd, 9]], [[0, 1], [odd, 2]], [[0, 1], [1, odd]],
                      [[0, 1], odd], [odd, [0, 1]]])
    falls = [
        [[2, 1]], [[2], [1]], [[1, 2, 1]], [[1, 2, 3, 4, 5, 4]], [[1], [2], [3], [4], [5], [4]],
        [[1, 2], [0, 3]], [[1, 2], [1, 1]], [[1, 3], [2, 2]], [[1, 5], [2, 4]], [[0, 0], [0, -1]],
        [[1, 2], [3, 4], [2, 5]], [[1, 2], [3, 4], [4, 3]], [[0, -1], [0, 0]], [[1, 0], [1, 1]],
        [[BIGGEST, BIGGEST - 1]], [[BIGGEST], [BIGGEST - 1]], [[-1, -2]], [[-BIG], [-BIG - 1]],
    ]
    return shapes + kinds + falls


def no_numbers():
    return odd_things() + ["1", "-1", [], [1], [[1]], (1,), (0, 0), {0: 1}, {1}, [None]]


def no_cells(rows, places):
    beyond = [(rows, 0), (0, places), (rows, places), (rows + 5, 0), (0, places + 5), (BIG, 0), (0, BIG)]
    below = [(-1, 0), (0, -1), (-1, -1), (-rows, 0), (0, -places), (-BIG, 0)]
    truths = [(True, 0), (0, True), (False, 0), (0, False), (True, True), (False, False)]
    kinds = [[0, 0], [], [(0, 0)], (0,), (0, 0, 0), ((0, 0),), "00", "0:0", 0, 1, {0: 0}, {0: 0, 1: 0}, {0, 1}]
    for odd in odd_things():
        kinds.extend([odd, (odd, 0), (0, odd), (odd, odd), ([0], 0), (0, (0,))])
    return beyond + below + truths + kinds


def cells_in(table):
    return [(row, place) for row in range(len(table)) for place in range(len(table[0]))]


def all_small_tables():
    """Every table of one to three rows and places with numbers out of 0, 2 and 4."""
    tables = []
    for rows in range(1, 4):
        for places in range(1, 4):
            falling_free = itertools.combinations_with_replacement((0, 2, 4), places)
            for chosen in itertools.product(list(falling_free), repeat=rows):
                if all(up <= down for a, b in zip(chosen, chosen[1:]) for up, down in zip(a, b)):
                    tables.append([list(row) for row in chosen])
    return tables


def numbers_around(table):
    """Each number of the table, the ones beside it, and some far beyond all."""
    around = {-2 * BIGGEST, 2 * BIGGEST, 0}
    for row in table:
        for number in row:
            around.update([number - 1, number, number + 1])
    return sorted(around)


def ask(case, call, *given):
    """Answers the call, having seen that what was handed in stayed as it was and that it is answered the same."""
    before = repr(given)
    told = call(*given)
    again = call(*given)
    case.assertEqual(repr(told), repr(again))
    case.assertEqual(repr(given), before)
    return told


def refuse(case, error, call, *given):
    """Sees that the call is refused with this very error, and that what was handed in stayed as it was."""
    before = repr(given)
    with case.assertRaises(error, msg=before) as caught:
        call(*given)
    case.assertIs(caught.exception.__class__, error, before)
    case.assertIsInstance(caught.exception, SeekError)
    case.assertIsInstance(caught.exception, ValueError)
    case.assertEqual(repr(given), before)
