import inspect
import itertools
import sys
import unittest

from helpers import BIG, ask, odd_things, refuse
from stairseek.errors import NoLook, NoSize, NoStair
from stairseek.looks import best_look, fewest_looks, looks_left, open_after
from stairseek.tables import is_table

SIZES = [(r, p) for r in range(1, 5) for p in range(1, 5)]
SMALL_SIZES = [(r, p) for r, p in SIZES if r * p <= 6]
WORDS = ("less", "greater")


def stairs(r, p):
    return [list(steps) for steps in itertools.product(range(p + 1), repeat=r)
            if all(ahead >= behind for ahead, behind in zip(steps, steps[1:]))]


def open_parts(r, p):
    """Every low with every high that it may stand beside."""
    return [(low, high) for low in stairs(r, p) for high in stairs(r, p)
            if all(lower <= higher for lower, higher in zip(low, high))]


PARTS = {size: open_parts(*size) for size in SIZES}
PARTS_AS_TEXTS = {size: frozenset(repr(part) for part in PARTS[size]) for size in SIZES}


def open_cells(low, high):
    return frozenset((row, place) for row in range(len(low)) for place in range(low[row], high[row]))


def left_open(cells, cell, word):
    """What a look leaves open of some cells, by the document's words."""
    row, place = cell
    if word == "less":
        return frozenset(c for c in cells if not (c[0] >= row and c[1] >= place))
    return frozenset(c for c in cells if not (c[0] <= row and c[1] <= place))


def slow_fewest(cells):
    """All ways to look, each to its end, nothing remembered."""
    if not cells:
        return 0
    return min(slow_fewest_through(cells, cell) for cell in cells)


def slow_fewest_through(cells, cell):
    return 1 + max(slow_fewest(left_open(cells, cell, word)) for word in WORDS)


class Seeker:
    """The fewest looks without any stair: of all that may stand in a table, each look rules some out.

    What stands there counts only as less than x (-1), the same (0) or greater (1); any cell may be looked at. A set
    of such tables is a whole number with a bit for each. No more looks are needed once x stands in none of them."""

    def __init__(self, r, p):
        rows = list(itertools.combinations_with_replacement((-1, 0, 1), p))
        self.tables = [table for table in itertools.product(rows, repeat=r)
                       if all(up <= down for a, b in zip(table, table[1:]) for up, down in zip(a, b))]
        self.cells = [(row, place) for row in range(r) for place in range(p)]
        self.holding = self.those(lambda table: any(0 in row for row in table))
        # x is less than what stands there where that is greater than x.
        self.told = {(cell, word): self.those(lambda table: table[cell[0]][cell[1]] == sign)
                     for cell in self.cells for word, sign in (("less", 1), ("greater", -1))}
        self.known = {}

    def those(self, holds):
        return sum(1 << k for k, table in enumerate(self.tables) if holds(table))

    def agreeing_with(self, low, high):
        chosen = self.those(lambda table: True)
        for cell in self.cells:
            if cell[1] < low[cell[0]]:
                chosen &= self.told[cell, "greater"]
            elif cell[1] >= high[cell[0]]:
                chosen &= self.told[cell, "less"]
        return chosen

    def fewest(self, chosen):
        if not chosen & self.holding:
            return 0
        if chosen not in self.known:
            # A look that rules nothing out whatever it tells would go round in circles.
            useful = [cell for cell in self.cells if all(chosen & self.told[cell, w] != chosen for w in WORDS)]
            self.known[chosen] = min(self.fewest_through(chosen, cell) for cell in useful)
        return self.known[chosen]

    def fewest_through(self, chosen, cell):
        return 1 + max(self.fewest(chosen & self.told[cell, word]) for word in WORDS)


class TooManyCalls(Exception):
    pass


def calls_within(most, call, *given):
    """Tells what the call tells; fails once it has made more calls of functions than that."""
    made = [0]

    def count(frame, event, thing):
        if event == "call":
            made[0] += 1
            if made[0] > most:
                raise TooManyCalls(given)

    before = sys.getprofile()
    sys.setprofile(count)
    try:
        return call(*given)
    finally:
        sys.setprofile(before)


def most_calls(r, p):
    """Each part left open, each of its cells, each word: some calls for each of these, but no more."""
    return 4 * r * p * len(PARTS[r, p]) + 200


def setUpModule():
    # Where each look is reckoned anew the tests would not end; so this one comes ahead of them.
    calls_within(most_calls(4, 4), fewest_looks, 4, 4)


class InterfaceTest(unittest.TestCase):
    def test_arguments_are_named_as_told(self):
        told = [(open_after, "r p low high cell word"), (looks_left, "r p low high"), (best_look, "r p low high"),
                (fewest_looks, "r p")]
        for call, names in told:
            self.assertEqual(list(inspect.signature(call).parameters), names.split())


class OpenAfterTest(unittest.TestCase):
    def leaves(self, low, high, cell, word, told):
        with self.subTest(low=low, high=high, cell=cell, word=word):
            r, p = len(low), 4
            self.assertEqual(ask(self, open_after, r, p, low, high, cell, word), told)

    def test_from_all_open(self):
        low, high = [0, 0, 0], [4, 4, 4]
        self.leaves(low, high, (1, 2), "less", ([0, 0, 0], [4, 2, 2]))
        self.leaves(low, high, (1, 2), "greater", ([3, 3, 0], [4, 4, 4]))
        self.leaves(low, high, (0, 0), "less", ([0, 0, 0], [0, 0, 0]))
        self.leaves(low, high, (0, 0), "greater", ([1, 0, 0], [4, 4, 4]))
        self.leaves(low, high, (2, 3), "less", ([0, 0, 0], [4, 4, 3]))
        self.leaves(low, high, (2, 3), "greater", ([4, 4, 4], [4, 4, 4]))
        self.leaves(low, high, (0, 3), "less", ([0, 0, 0], [3, 3, 3]))
        self.leaves(low, high, (0, 3), "greater", ([4, 0, 0], [4, 4, 4]))
        self.leaves(low, high, (2, 0), "less", ([0, 0, 0], [4, 4, 0]))
        self.leaves(low, high, (2, 0), "greater", ([1, 1, 1], [4, 4, 4]))

    def test_from_a_part_left_open(self):
        low, high = [3, 1, 0], [4, 3, 1]
        self.leaves(low, high, (1, 2), "less", ([3, 1, 0], [4, 2, 1]))
        self.leaves(low, high, (1, 1), "less", ([3, 1, 0], [4, 1, 1]))
        self.leaves(low, high, (1, 2), "greater", ([3, 3, 0], [4, 3, 1]))
        self.leaves(low, high, (1, 1), "greater", ([3, 2, 0], [4, 3, 1]))
        self.leaves(low, high, (0, 3), "less", ([3, 1, 0], [3, 3, 1]))
        self.leaves(low, high, (0, 3), "greater", ([4, 1, 0], [4, 3, 1]))
        self.leaves(low, high, (2, 0), "less", ([3, 1, 0], [4, 3, 0]))
        self.leaves(low, high, (2, 0), "greater", ([3, 1, 1], [4, 3, 1]))

    def test_rows_with_nothing_open_stay(self):
        self.leaves([2, 2, 1], [4, 2, 1], (0, 3), "less", ([2, 2, 1], [3, 2, 1]))
        self.leaves([2, 2, 1], [4, 2, 1], (0, 2), "greater", ([3, 2, 1], [4, 2, 1]))
        self.leaves([4, 2, 0], [4, 2, 2], (2, 1), "greater", ([4, 2, 2], [4, 2, 2]))
        self.leaves([4, 2, 0], [4, 2, 2], (2, 1), "less", ([4, 2, 0], [4, 2, 1]))

    def test_every_look_at_every_part_of_every_size(self):
        for r, p in SIZES:
            for low, high in open_parts(r, p):
                for cell in sorted(open_cells(low, high)):
                    for word in WORDS:
                        self.look(r, p, low, high, cell, word)

    def look(self, r, p, low, high, cell, word):
        case = (r, p, low, high, cell, word)
        before = repr(case)
        told = open_after(*case)
        self.assertEqual(repr(case), before)
        self.assertIs(told.__class__, tuple, case)
        self.assertEqual([part.__class__ for part in told], [list, list], case)
        self.assertIn(repr(told), PARTS_AS_TEXTS[r, p], case)
        new_low, new_high = told
        self.assertEqual(open_cells(new_low, new_high), left_open(open_cells(low, high), cell, word), case)
        if word == "less":
            self.assertEqual(new_low, low, case)
            # What was lowered is lowered just to the place that was looked at, the lowest that is needed.
            self.assertTrue(all(new == old or new == cell[1] < old for new, old in zip(new_high, high)), case)
        else:
            self.assertEqual(new_high, high, case)
            self.assertTrue(all(new == old or new == cell[1] + 1 > old for new, old in zip(new_low, low)), case)

    def test_both_lists_are_new_ones(self):
        for word in WORDS:
            low, high = [1, 0], [2, 2]
            told = open_after(2, 2, low, high, (1, 1), word)
            again = open_after(2, 2, low, high, (1, 1), word)
            lists = [low, high, told[0], told[1], again[0], again[1]]
            for one, other in itertools.combinations(lists, 2):
                self.assertIsNot(one, other)
            right = ([1, 0], [2, 1]) if word == "less" else ([2, 2], [2, 2])
            told[0].append(7)
            told[1].clear()
            self.assertEqual(again, right)
            self.assertEqual((low, high), ([1, 0], [2, 2]))
            self.assertEqual(open_after(2, 2, low, high, (1, 1), word), right)

    def test_nothing_handed_in_is_kept(self):
        low, high = [0, 0], [2, 2]
        told = open_after(2, 2, low, high, (0, 1), "less")
        low[0] = 1
        high.clear()
        self.assertEqual(told, ([0, 0], [1, 1]))


class LooksLeftTest(unittest.TestCase):
    def looks(self, r, p, low, high, many, cell):
        with self.subTest(r=r, p=p, low=low, high=high):
            self.assertEqual(ask(self, looks_left, r, p, low, high), many)
            self.assertEqual(ask(self, best_look, r, p, low, high), cell)

    def test_none_open(self):
        for r, p in SIZES:
            for steps in stairs(r, p):
                self.looks(r, p, steps, list(steps), 0, None)
                self.looks(r, p, steps, steps, 0, None)

    def test_one_open_cell(self):
        self.looks(1, 1, [0], [1], 1, (0, 0))
        self.looks(2, 2, [1, 0], [1, 1], 1, (1, 0))
        self.looks(4, 4, [4, 2, 0, 0], [4, 3, 0, 0], 1, (1, 2))
        self.looks(4, 4, [3, 3, 3, 3], [4, 3, 3, 3], 1, (0, 3))

    def test_one_row(self):
        self.looks(1, 2, [0], [2], 2, (0, 0))
        self.looks(1, 3, [0], [3], 2, (0, 1))
        self.looks(1, 4, [0], [4], 3, (0, 0))
        self.looks(1, 4, [1], [4], 2, (0, 2))
        self.looks(1, 4, [2], [4], 2, (0, 2))

    def test_one_place(self):
        self.looks(2, 1, [0, 0], [1, 1], 2, (0, 0))
        self.looks(3, 1, [0, 0, 0], [1, 1, 1], 2, (1, 0))
        self.looks(4, 1, [0, 0, 0, 0], [1, 1, 1, 1], 3, (0, 0))
        self.looks(4, 1, [1, 0, 0, 0], [1, 1, 1, 1], 2, (2, 0))
        self.looks(4, 1, [0, 0, 0, 0], [1, 1, 0, 0], 2, (0, 0))

    def test_cells_that_tell_nothing_of_one_another(self):
        self.looks(2, 2, [1, 0], [2, 1], 2, (0, 1))
        self.looks(4, 4, [3, 2, 1, 0], [4, 3, 2, 1], 4, (0, 3))
        self.looks(4, 4, [2, 2, 0, 0], [4, 2, 2, 0], 4, (0, 2))

    def test_two_by_two(self):
        # A look at (0, 1) leaves two of one row or of one place; one at (0, 0) may leave the three others.
        self.looks(2, 2, [0, 0], [2, 2], 3, (0, 1))
        self.looks(2, 2, [1, 0], [2, 2], 3, (0, 1))
        self.looks(2, 2, [0, 0], [2, 1], 3, (0, 0))
        self.looks(2, 2, [0, 0], [1, 1], 2, (0, 0))
        self.looks(2, 2, [2, 0], [2, 2], 2, (1, 0))

    def test_against_the_slow_reckoning(self):
        for r, p in SMALL_SIZES:
            for low, high in PARTS[r, p]:
                cells = open_cells(low, high)
                many = slow_fewest(cells)
                first = min((cell for cell in cells if slow_fewest_through(cells, cell) == many), default=None)
                self.looks(r, p, low, high, many, first)

    def test_against_all_that_may_stand_in_the_table(self):
        for r, p in SIZES:
            seeker = Seeker(r, p)
            for low, high in PARTS[r, p]:
                chosen = seeker.agreeing_with(low, high)
                many = seeker.fewest(chosen)
                fitting = [cell for cell in sorted(open_cells(low, high))
                           if seeker.fewest_through(chosen, cell) == many]
                case = (r, p, low, high)
                self.assertEqual(looks_left(*case), many, case)
                self.assertEqual(best_look(*case), fitting[0] if fitting else None, case)

    def test_no_look_can_bring_more_than_the_best(self):
        for r, p in SIZES:
            left = {repr(part): looks_left(r, p, *part) for part in PARTS[r, p]}
            for low, high in PARTS[r, p]:
                least = [(1 + max(left[repr(open_after(r, p, low, high, cell, word))] for word in WORDS), cell)
                         for cell in open_cells(low, high)]
                told = (left[repr((low, high))], best_look(r, p, low, high))
                self.assertEqual(told, min(least, default=(0, None)), (r, p, low, high))

    def test_kinds(self):
        told = looks_left(3, 3, [0, 0, 0], [3, 3, 3])
        self.assertIs(told.__class__, int)
        self.assertIs(looks_left(1, 1, [1], [1]).__class__, int)
        cell = best_look(3, 3, [0, 0, 0], [3, 3, 3])
        self.assertIs(cell.__class__, tuple)
        self.assertEqual([part.__class__ for part in cell], [int, int])


class FewestLooksTest(unittest.TestCase):
    def test_all_sizes(self):
        told = [[ask(self, fewest_looks, r, p) for p in range(1, 5)] for r in range(1, 5)]
        self.assertEqual(told, [[1, 2, 2, 3], [2, 3, 4, 5], [2, 4, 5, 6], [3, 5, 6, 7]])
        self.assertEqual({many.__class__ for row in told for many in row}, {int})

    def test_against_the_slow_reckoning(self):
        for r, p in SMALL_SIZES:
            with self.subTest(r=r, p=p):
                self.assertEqual(fewest_looks(r, p), slow_fewest(open_cells([0] * r, [p] * r)))

    def test_against_all_that_may_stand_in_the_table(self):
        for r, p in SIZES:
            with self.subTest(r=r, p=p):
                seeker = Seeker(r, p)
                self.assertEqual(fewest_looks(r, p), seeker.fewest(seeker.agreeing_with([0] * r, [p] * r)))

    def test_laid_over_they_are_alike(self):
        for r, p in SIZES:
            self.assertEqual(fewest_looks(r, p), fewest_looks(p, r))

    def test_as_many_as_are_left_at_first(self):
        for r, p in SIZES:
            self.assertEqual(fewest_looks(r, p), looks_left(r, p, [0] * r, [p] * r))

    def test_what_was_reckoned_is_not_reckoned_anew(self):
        for r, p in SIZES:
            most = most_calls(r, p)
            low, high = [0] * r, [p] * r
            with self.subTest(r=r, p=p):
                many = calls_within(most, fewest_looks, r, p)
                self.assertEqual(calls_within(most, looks_left, r, p, low, high), many)
                self.assertEqual(calls_within(most, best_look, r, p, low, high), best_look(r, p, low, high))

    def test_found_with_so_few_whatever_stands_in_the_table(self):
        for r, p in SIZES:
            best = {repr(part): best_look(r, p, *part) for part in PARTS[r, p]}
            many = fewest_looks(r, p)
            used = [self.seek(table, best) for table in Seeker(r, p).tables]
            self.assertLessEqual(max(used), many, (r, p))

    def seek(self, signs, best):
        """How many looks it takes to find 0, or to know that it stands nowhere."""
        table = [list(row) for row in signs]
        self.assertTrue(is_table(table))
        r, p = len(table), len(table[0])
        part = ([0] * r, [p] * r)
        used = 0
        while best[repr(part)] is not None:
            row, place = best[repr(part)]
            used += 1
            self.assertLessEqual(used, r * p, table)
            if table[row][place] == 0:
                return used
            part = open_after(r, p, part[0], part[1], (row, place), "less" if table[row][place] > 0 else "greater")
        self.assertFalse(any(0 in row for row in table), table)
        return used


def no_sides():
    return [0, 5, 6, -1, -4, BIG, -BIG, "1", "4", [], [1], [4], (1,), (4,), {1: 1}, {1}, [[0]]] + odd_things()


def no_stairs():
    """None of these is a stair of two rows and three places."""
    shapes = [[], [0], [3], [0, 0, 0], [3, 3, 3], [3, 2, 1, 0], [0] * 40, (0, 0), (3, 3), (2, 1), "00", "33", 0, 3,
              {0: 0, 1: 0}, {0: 3, 1: 3}, {0, 1}, [[0, 0]], [[0], [0]], [(0, 0)]]
    rising = [[0, 1], [1, 2], [2, 3], [0, 3]]
    beyond = [[-1, -1], [0, -1], [3, -1], [4, 4], [4, 3], [4, 0], [BIG, 0], [3, -BIG], [-1, 0]]
    kinds = []
    for odd in odd_things() + ["0", "3", [0], (0,), [[0]]]:
        kinds.extend([odd, [odd], [odd, 0], [3, odd], [odd, odd]])
    return shapes + rising + beyond + kinds


def no_looks():
    """None of these is an open cell of [2, 0] to [3, 2], two rows and three places."""
    closed = [(0, 0), (0, 1), (1, 2)]
    beyond = [(0, 3), (1, 3), (2, 0), (2, 2), (4, 4), (BIG, 0), (0, BIG), (40, 40)]
    below = [(-1, 0), (-1, 1), (-2, 2), (0, -1), (1, -1), (1, -2), (1, -3), (-1, -1), (-BIG, 0)]
    truths = [(True, 0), (True, 1), (1, True), (1, False), (True, True), (True, False), (False, 2)]
    kinds = [[0, 2], [1, 0], [], (), (0,), (1,), (2,), (0, 2, 0), (1, 0, 0), (1, 1, 1), ((1, 0),), "02", "10", "1:0",
             0, 1, {1: 0}, {1: 0, 0: 2}, {1, 0}, [(1, 0)]]
    for odd in odd_things():
        kinds.extend([odd, (odd, 0), (1, odd), (odd, odd), (1, 0, odd), ([1], 0), (1, [0]), ("1", "0")])
    return closed + beyond + below + truths + kinds


class AlikeToAll:
    def __eq__(self, other):
        return True


class AlikeToNone:
    def __eq__(self, other):
        raise RuntimeError("not to be held against anything")


def no_words():
    return [AlikeToAll(), AlikeToNone(), "", "Less", "LESS", "less ", " less", "les", "lesser", "Greater", "great",
            "same", "greater\n", "lessgreater", 0, 1, -1, BIG, ["less"], ("less",), ("less", "greater"),
            {"less": 1}, {"less"}, b"less", [], [["greater"]]] + odd_things()


class RefusalTest(unittest.TestCase):
    def refuse_parts(self, error, r, p, low, high):
        for call in (looks_left, best_look):
            refuse(self, error, call, r, p, low, high)
        for cell, word in (((0, 0), "less"), ((1, 0), "greater"), ((9, 9), "less"), (None, None), ((0, 0), "x")):
            refuse(self, error, open_after, r, p, low, high, cell, word)

    def test_what_is_no_size(self):
        for odd in no_sides():
            for side in (1, 2, 4):
                with self.subTest(odd=odd, side=side):
                    refuse(self, NoSize, fewest_looks, odd, side)
                    refuse(self, NoSize, fewest_looks, side, odd)
                    refuse(self, NoSize, fewest_looks, odd, odd)

    def test_no_size_comes_ahead_of_all_else(self):
        stairs_or_not = [([0], [1]), ([0, 0], [2, 2]), ([0] * 5, [1] * 5), ([], []), (None, None), ([1], [0]),
                         ("x", 3)]
        for odd in no_sides():
            for low, high in stairs_or_not:
                with self.subTest(odd=odd, low=low, high=high):
                    self.refuse_parts(NoSize, odd, 2, low, high)
                    self.refuse_parts(NoSize, 2, odd, low, high)

    def test_sizes_just_beyond_with_stairs_that_would_fit(self):
        self.refuse_parts(NoSize, 5, 1, [0] * 5, [1] * 5)
        self.refuse_parts(NoSize, 1, 5, [0], [5])
        self.refuse_parts(NoSize, 0, 1, [], [])
        self.refuse_parts(NoSize, 1, 0, [0], [0])
        self.refuse_parts(NoSize, True, 1, [0], [1])
        self.refuse_parts(NoSize, 1, True, [0], [1])

    def test_what_is_no_stair(self):
        for odd in no_stairs():
            with self.subTest(odd=odd):
                self.refuse_parts(NoStair, 2, 3, odd, [3, 3])
                self.refuse_parts(NoStair, 2, 3, [0, 0], odd)
                self.refuse_parts(NoStair, 2, 3, odd, odd)

    def test_low_above_high(self):
        for low, high in (([1, 0], [0, 0]), ([3, 1], [3, 0]), ([3, 3], [3, 2]), ([3, 3], [0, 0]), ([2, 0], [1, 1]),
                          ([2, 2], [3, 1])):
            with self.subTest(low=low, high=high):
                self.refuse_parts(NoStair, 2, 3, low, high)

    def test_every_pair_of_lists_of_small_sizes(self):
        for r, p in ((1, 1), (1, 3), (2, 2), (3, 1)):
            lists = [list(steps) for many in (r - 1, r, r + 1)
                     for steps in itertools.product(range(-1, p + 2), repeat=many)]
            for low in lists:
                for high in lists:
                    if (low, high) in PARTS[r, p]:
                        self.assertEqual(looks_left(r, p, low, high) == 0, low == high)
                    else:
                        self.assertRaises(NoStair, looks_left, r, p, low, high)
                        self.assertRaises(NoStair, best_look, r, p, low, high)

    def test_a_size_laid_over_is_another(self):
        self.refuse_parts(NoStair, 3, 2, [0, 0], [3, 3])
        self.refuse_parts(NoStair, 2, 3, [0, 0, 0], [2, 2, 2])
        self.refuse_parts(NoStair, 2, 2, [0, 0], [3, 3])

    def test_what_is_no_open_cell(self):
        low, high = [2, 0], [3, 2]
        for cell in no_looks():
            for word in WORDS + ("x", None, True):
                with self.subTest(cell=cell, word=word):
                    refuse(self, NoLook, open_after, 2, 3, low, high, cell, word)

    def test_every_cell_of_every_part(self):
        for r, p in SMALL_SIZES:
            for low, high in PARTS[r, p]:
                for cell in itertools.product(range(-r - 1, r + 2), range(-p - 1, p + 2)):
                    if cell not in open_cells(low, high):
                        for word in WORDS:
                            self.assertRaises(NoLook, open_after, r, p, low, high, cell, word)

    def test_what_is_no_word(self):
        for word in no_words():
            for cell in ((0, 2), (1, 0), (1, 1)):
                with self.subTest(word=word, cell=cell):
                    refuse(self, NoLook, open_after, 2, 3, [2, 0], [3, 2], cell, word)

    def test_no_stair_comes_ahead_of_no_look(self):
        for cell in no_looks()[::5]:
            for word in no_words()[::5]:
                refuse(self, NoStair, open_after, 2, 3, [0, 1], [3, 2], cell, word)
                refuse(self, NoStair, open_after, 2, 3, [2, 0], [1, 0], cell, word)
                refuse(self, NoStair, open_after, 2, 3, None, None, cell, word)

    def test_behind_refusals_all_is_told_as_ever(self):
        low, high = [2, 0], [3, 2]
        first = open_after(2, 3, low, high, (1, 0), "less")
        refuse(self, NoLook, open_after, 2, 3, low, high, (0, 0), "less")
        refuse(self, NoStair, open_after, 2, 3, high, low, (1, 0), "less")
        refuse(self, NoSize, open_after, 2, 5, low, high, (1, 0), "less")
        self.assertEqual(open_after(2, 3, low, high, (1, 0), "less"), first)


if __name__ == "__main__":
    unittest.main()
