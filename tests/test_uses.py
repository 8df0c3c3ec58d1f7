"""Promise 8.1, and 0.2 as far as likewise.uses keeps to it: whether what a row sets is looked into."""

import copy
import random
import unittest

from byterms import all_used
from likewise.pieces import Piece
from likewise.uses import used
from samples import BOXES, IDLE, NO, TRUTHS, YES, instead, number, random_making, random_piece, spot

TEXT = ((0, 0),)

# A way that looks into nothing.
BLIND = (0, (number(0),) * 4, (NO, YES), number(0))

# A row of each kind that sets the spot 6, but a load, and looks into the spot 1 if anywhere.
SETTING = (
    ("set", 6, 9), ("copy", 6, 1), ("cut", 6, 1), ("add", 6, 1, 1), ("sub", 6, 1, 1), ("mul", 6, 1, 1), ("and", 6, 1, 1),
    ("xor", 6, 1, 1), ("addn", 6, 1, 9),
)
LOAD = ("load", 6, 1, 3)


def looking_ways(s):
    """Ways of which each looks into one spot in one place alone."""
    for k in range(4):
        yield instead(BLIND, 1, instead(BLIND[1], k, spot(s)))
        yield instead(BLIND, 1, instead(BLIND[1], k, (5, ((s, 4095),))))
    yield instead(BLIND, 3, spot(s))
    yield instead(BLIND, 3, (9, ((s, 2),)))
    other = 11 if s != 11 else 10
    for yes in (True, False):
        for kind, one, two in (("truth", s, 0), ("same", s, other), ("same", other, s), ("less", s, other), ("less", other, s)):
            yield instead(BLIND, 2, ((yes, kind, one, two), NO))
            yield instead(BLIND, 2, (NO, (yes, kind, one, two)))


def looking_rows(s, q=9):
    """Rows of which each looks into one spot in one place alone; those that set one set another."""
    for name in ("copy", "cut"):
        yield (name, q, s)
    for name in ("add", "sub", "mul", "and", "xor"):
        yield (name, q, s, 11)
        yield (name, q, 11, s)
    yield ("addn", q, s, 0)
    yield ("load", q, s, 5)
    yield ("store", s, 5, 11)
    yield ("store", 11, 5, s)
    yield ("out", s)
    for goes in (True, False):
        yield ("test", "truth", s, 0, goes, BLIND)
        for kind in ("same", "less"):
            yield ("test", kind, s, 11, goes, BLIND)
            yield ("test", kind, 11, s, goes, BLIND)
    for way in looking_ways(s):
        yield ("test", "same", 10, 11, True, way)


def piece(rows, looks=None):
    """A piece whose ways look into nothing, but those told by their numbers."""
    ways = [BLIND] * (len(rows) + 1)
    for k, way in (looks or {}).items():
        ways[k] = way
    return Piece(0, TEXT, tuple(rows), tuple(ways))


class Using(unittest.TestCase):
    def told(self, expected, rows, k=0, looks=None):
        """What is told of row k."""
        self.assertIs(used(piece(rows, looks), k), expected, (rows, k, looks))


class Looks(Using):
    def test_by_each_row(self):
        for row in SETTING:
            for look in looking_rows(6):
                for between in range(3):
                    self.told(True, [row] + [IDLE] * between + [look])
            for look in looking_rows(7):
                self.told(False, [row, look])

    def test_by_each_way(self):
        for row in SETTING:
            for look in looking_ways(6):
                for k in (1, 2, 3):
                    self.told(True, [row, IDLE, IDLE], 0, {k: look})
                self.told(False, [row, IDLE, IDLE], 0, {0: look})
            for look in looking_ways(7):
                self.told(False, [row, IDLE], 0, {0: look, 1: look, 2: look})

    def test_by_none(self):
        for row in SETTING + (LOAD,):
            self.told(False, [row])
            self.told(False, [row, IDLE, IDLE, IDLE])

    def test_each_spot(self):
        for s in range(12):
            other = (s + 1) % 12
            self.told(True, [("set", s, 1), ("out", s)])
            self.told(False, [("set", s, 1), ("out", other)])
            self.told(True, [("load", s, other, 1), ("out", other), ("out", s)])

    def test_what_is_no_look(self):
        # A number that is no spot, a known truth, the second number of a truth.
        for row in (("set", 9, 6), ("addn", 9, 11, 6), ("load", 9, 11, 6), ("store", 11, 6, 11)):
            self.told(False, [("set", 6, 1), row])
        self.told(False, [("set", 0, 1), ("test", "truth", 4, 0, True, BLIND)])
        for truth in ((True, "truth", 4, 0), YES, NO):
            self.told(False, [("set", 0, 1)], 0, {1: instead(BLIND, 2, (truth, truth))})

    def test_rows_ahead_are_no_look(self):
        for look in looking_rows(6):
            self.told(False, [look, ("set", 6, 1)], 1)
        for row in (("addn", 6, 6, 1), ("copy", 6, 6), ("cut", 6, 6), ("add", 6, 6, 6)):
            self.told(False, [row])

    def test_a_row_that_sets_nothing(self):
        for row in (("store", 6, 1, 6), ("out", 6), ("test", "same", 6, 6, True, BLIND)):
            looks = {k: instead(BLIND, 1, (spot(0), spot(1), spot(5), spot(6))) for k in range(3)}
            self.told(False, [row, ("out", 6)], 0, looks)

    def test_a_row_that_is_not_there(self):
        for k in (2, 3, 60):
            self.told(False, [("set", 6, 1), ("out", 6)], k)


class SetAnew(Using):
    def test_ahead_of_the_look(self):
        for row in SETTING:
            for anew in SETTING:
                self.told(False, [row, anew, ("out", 6)])
                self.told(True, [row, anew, ("out", 6)], 1)
                self.told(True, [row, ("out", 6), anew])
                self.told(True, [row, anew], 0, {1: instead(BLIND, 3, spot(6))})
                self.told(False, [row, anew], 0, {2: instead(BLIND, 3, spot(6))})

    def test_by_a_row_that_looks_into_it(self):
        for anew in (("copy", 6, 6), ("cut", 6, 6), ("addn", 6, 6, 1), ("add", 6, 6, 1), ("sub", 6, 1, 6), ("load", 6, 6, 1)):
            self.told(True, [("set", 6, 1), anew])
            self.told(True, [("set", 6, 1), IDLE, anew])
            self.told(False, [("set", 6, 1), ("set", 6, 2), anew])

    def test_by_a_test_or_a_store_not_at_all(self):
        for row in (("test", "same", 1, 1, True, BLIND), ("store", 1, 6, 1), ("out", 1)):
            self.told(True, [("set", 6, 1), row, ("out", 6)])


class Late(Using):
    def test_looks_from_the_second_row_on(self):
        for look in looking_rows(6):
            self.told(False, [LOAD, look])
            self.told(True, [LOAD, IDLE, look])
            self.told(True, [LOAD, look, look])
        for look in looking_ways(6):
            self.told(False, [LOAD, IDLE], 0, {0: look, 1: look})
            self.told(True, [LOAD, IDLE], 0, {2: look})
            self.told(True, [LOAD, IDLE, IDLE], 0, {3: look})
            self.told(False, [LOAD], 0, {0: look, 1: look})

    def test_what_the_row_behind_sets_there_is_not_used(self):
        for row in SETTING:
            for rows in ([LOAD, row, ("out", 6)], [LOAD, row, IDLE, ("out", 6)]):
                self.told(True, rows, 0)
                self.told(False, rows, 1)
            looks = {2: instead(BLIND, 3, spot(6)), 3: instead(BLIND, 3, spot(6))}
            self.told(False, [LOAD, row, IDLE], 1, looks)
            self.told(True, [LOAD, row, IDLE], 0, looks)
            self.told(True, [("load", 7, 1, 3), row, ("out", 6)], 1)

    def test_set_anew_behind_the_word_has_come(self):
        for row in SETTING:
            self.told(False, [LOAD, IDLE, row, ("out", 6)])
            self.told(True, [LOAD, IDLE, row, ("out", 6)], 2)
            self.told(True, [LOAD, IDLE, row], 0, {2: instead(BLIND, 3, spot(6))})
            self.told(False, [LOAD, row, row, ("out", 6)], 0)

    def test_a_load_sets_anew_behind_the_row_after_it(self):
        for row in SETTING:
            for look in looking_rows(6):
                self.told(True, [row, LOAD, look])
                self.told(False, [row, LOAD, IDLE, look])
            for look in looking_ways(6):
                self.told(True, [row, LOAD, IDLE], 0, {1: look})
                self.told(True, [row, LOAD, IDLE], 0, {2: look})
                self.told(False, [row, LOAD, IDLE], 0, {3: look})
            self.told(False, [row, LOAD, ("set", 6, 3), ("out", 6)])
            self.told(True, [row, LOAD, ("addn", 6, 6, 3), ("out", 1)])

    def test_loads_one_behind_the_other(self):
        for look in looking_rows(6):
            self.told(True, [LOAD, LOAD, look], 0)
            self.told(False, [LOAD, LOAD, look], 1)
            self.told(False, [LOAD, LOAD, IDLE, look], 0)
            self.told(True, [LOAD, LOAD, IDLE, look], 1)
            self.told(True, [LOAD, LOAD, LOAD, look], 1)
        self.told(True, [LOAD, LOAD, IDLE], 0, {2: instead(BLIND, 3, spot(6))})
        self.told(False, [LOAD, LOAD, IDLE], 1, {2: instead(BLIND, 3, spot(6))})
        self.told(False, [LOAD, LOAD, IDLE], 0, {3: instead(BLIND, 3, spot(6))})
        self.told(True, [LOAD, LOAD, IDLE], 1, {3: instead(BLIND, 3, spot(6))})

    def test_its_own_address(self):
        self.told(False, [("load", 6, 6, 1), IDLE])
        self.told(True, [("load", 6, 1, 1), IDLE, ("load", 6, 6, 1)])
        self.told(False, [("load", 6, 1, 1), ("load", 6, 6, 1)])


class AtRandom(Using):
    def test_every_row(self):
        told = {True: 0, False: 0}
        for seed in range(400):
            made = random_piece(random.Random(seed))
            seen = all_used(made)
            for k in range(len(made.rows)):
                with self.subTest((seed, k)):
                    self.assertIs(used(made, k), k in seen)
                told[k in seen] += 1
        self.assertGreater(min(told.values()), 2000)

    def test_every_row_of_made_pieces(self):
        for seed in range(60):
            pages, cells, making = random_making(random.Random(seed))
            made = making.piece()
            if made is not None:
                self.assertEqual({k for k in range(len(made.rows)) if used(made, k)}, all_used(made), seed)


class TheAskersOwn(Using):
    def test_a_piece_stays_and_the_same_is_told_again(self):
        made = Piece(0, TEXT, (LOAD, ("add", 0, 6, 1), ("out", 6)), ((0, BOXES, TRUTHS, number(0)),) * 4)
        before = copy.deepcopy((made.start, made.text, made.rows, made.ways))
        for count in range(3):
            self.assertEqual([used(made, k) for k in range(3)], [True, True, False])
        self.assertEqual((made.start, made.text, made.rows, made.ways), before)


if __name__ == "__main__":
    unittest.main()
