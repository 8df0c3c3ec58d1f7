"""Promise 8.2, 6.3 to 6.5 and 5.5 where pieces were shortened, and 0.2 and 0.4 as far as likewise.shorter keeps to them."""

import copy
import random
import unittest

from byterms import Walk, again, all_used, fields, random_right, seen_rows
from likewise.errors import BadPages, BadPiece
from likewise.judge import judged
from likewise.maker import plain_piece
from likewise.pieces import Piece
from likewise.shorter import shortened
from likewise.terms import Table
from samples import (
    ALL, BOXES, IDLE, NO, NO_RUN, TRUTHS, YES, compare_rides, copied, instead, memory, number, random_making, spot, text, way,
)

PAGES = [ALL, ALL]
CARRY = ((False, "truth", 7, 0), (True, "less", 7, 6))


def piece(first, rows, ways, at=0):
    """A piece of the first machine's rows, written one behind the other."""
    return Piece(at, text(first, at), tuple(rows), tuple(ways))


def right_behind(rows, k):
    """Whether row k stands right behind a load or a store."""
    return k > 0 and rows[k - 1][0] in ("load", "store")


class Shortening(unittest.TestCase):
    def checked(self, pages, made):
        """What 8.2 says of a right piece shortened: the shortened one."""
        self.assertIsNone(judged(pages, made))
        short = shortened(pages, made)
        self.assertIsInstance(short, Piece)
        self.assertIsNone(judged(pages, short))
        self.assertEqual((short.start, short.text), (made.start, made.text))
        self.assertLessEqual(len(short.rows), len(made.rows))
        self.assertEqual(short.ways[-1][0], made.ways[-1][0])
        table = Table()
        self.assertEqual(seen_rows(table, short), seen_rows(table, made))
        self.rules(short)
        self.assertEqual(fields(shortened(pages, short)), fields(short))
        return short

    def rules(self, short):
        """What 8.2 says of the rows and recipes of a shortened piece."""
        walk, looked = Walk(Table()), all_used(short)
        for k, row in enumerate(short.rows):
            self.recipes(walk, short.ways[k])
            if row[0] == "test":
                self.recipes(walk, row[5])
            if not right_behind(short.rows, k):
                self.row_rules(walk, row, k in looked)
            walk.go(row)
        self.recipes(walk, short.ways[-1])

    def row_rules(self, walk, row, looked):
        """What 8.2 says of a row that is not right behind a load or a store."""
        change = walk.sets(row)
        if row[0] == "load":
            self.assertTrue(looked or walk.address(row) not in walk.loads, row)
        elif change is not None:
            self.assertTrue(looked, row)
            if row[0] != "cut":
                self.assertNotEqual(change[1], walk.held[change[0]], row)
            if row[0] != "set":
                self.assertNotEqual(change[1][1], (), row)

    def recipes(self, walk, one):
        """What 8.2 says of a way's recipes."""
        done, boxes, truths, place = one
        for recipe in boxes + (place,):
            self.assertTrue(recipe[1] == () or walk.recipe(recipe)[1] != (), one)
        for recipe in truths:
            self.assertEqual(recipe[1] == "known", walk.truth(recipe)[1] is None, one)

    def shorter(self, first, rows, ways, expected=None, pages=None):
        """A right piece of these is shortened as 8.2 says, to so many rows, and ridden: the shortened one."""
        made = piece(first, rows, ways)
        given = PAGES if pages is None else pages
        short = self.checked(given, made)
        if expected is not None:
            self.assertEqual(len(short.rows), expected, short.rows)
        compare_rides(self, random.Random(len(rows)), given, memory(first, len(given)), short, 8)
        return short


class Repeats(Shortening):
    def test_each_kind_of_row(self):
        ways = [way(0, 0), way(0, 0), way(1, 1)]
        for row in (("copy", 3, 3), ("addn", 3, 3, 0), ("add", 3, 3, 11), ("sub", 3, 3, 11), ("xor", 3, 11, 3), ("and", 3, 3, 3),
                    ("copy", 8, 8), ("set", 8, 0), ("mul", 8, 8, 1), ("xor", 9, 2, 2), ("copy", 0, 0), ("copy", 4, 4), ("sub", 10, 4, 4)):
            with self.subTest(row):
                short = self.shorter([("out", 3)], [row, ("out", 3)], ways, 1)
                self.assertEqual(short.ways, (way(0, 0), way(1, 1)))

    def test_of_what_was_set_ahead(self):
        rows = [("set", 6, 5), ("copy", 7, 6), ("set", 6, 5), ("addn", 3, 3, 1), ("addn", 3, 3, 4095), ("cut", 3, 3), ("out", 3)]
        self.shorter([("out", 3)], rows, [way(0, 0)] * 3 + [way(0, 0), way(0, 0, b3=spot(3, 1, 4095)), way(0, 0), way(0, 0), way(1, 1)])
        one = [("copy", 6, 0), ("copy", 6, 0), ("out", 6)]
        self.shorter([("out", 0)], one, [way(0, 0)] * 3 + [way(1, 1)], 2)

    def test_a_step_that_changes_nothing(self):
        for first, to in (([("jump", 20)], 20), ([("move", 1, 1)], 1), ([("jump", 2), ("jump", 4), ("jump", 0)], 0)):
            steps = len(first)
            ways = [way(k, first[k - 1][1] if k > 0 else 0) for k in range(steps)] + [way(steps, to)]
            short = self.shorter(first, [IDLE] * steps, ways, 0)
            self.assertEqual(short.ways, (way(steps, to),))

    def test_a_spot_that_must_be_sure(self):
        first = [("add", 0, 1)]
        for sure in (("copy", 7, 8), ("and", 7, 8, 8), ("xor", 7, 8, 11)):
            rows = [("copy", 6, 0), ("add", 7, 0, 1), ("cut", 8, 7), sure, ("copy", 0, 7)]
            with self.subTest(sure):
                short = self.shorter(first, rows, [way(0, 0)] * 5 + [way(1, 1, CARRY)])
                self.assertNotIn(sure, short.rows)
        # Not sure behind the row either, or sure ahead of it: there is nothing to keep.
        rows = [("copy", 6, 0), ("add", 7, 0, 1), ("add", 7, 0, 1), ("add", 7, 6, 1), ("cut", 7, 7), ("copy", 7, 7)]
        short = self.shorter(first, rows, [way(0, 0)] * 6 + [way(1, 1, CARRY, b0=spot(7))], 3)
        self.assertEqual([row[0] for row in short.rows], ["copy", "add", "cut"])

    def test_a_test_of_a_spot_that_must_be_sure(self):
        first = [("back", 2)]
        rows = [("set", 6, 20), ("addn", 7, 2, 0), ("copy", 7, 2), ("test", "same", 7, 6, True, way(1, spot(7)))]
        self.shorter(first, rows, [way(0, 0)] * 4 + [way(1, 20)])

    def test_cuts_and_loads_may_repeat(self):
        rows = [("addn", 7, 2, 0), ("cut", 7, 7), ("set", 6, 20), ("test", "same", 7, 6, True, way(1, spot(2)))]
        short = self.shorter([("back", 2)], rows, [way(0, 0)] * 4 + [way(1, 20)])
        self.assertIn(("cut", 7, 7), short.rows)

    def test_a_cut_of_what_is_sure(self):
        rows = [("cut", 3, 3), ("copy", 6, 3), ("cut", 6, 3), ("out", 6)]
        self.shorter([("out", 3)], rows, [way(0, 0)] * 4 + [way(1, 1)], 2)


class Unused(Shortening):
    def test_each_kind_of_row(self):
        ways = [way(0, 0), way(0, 0), way(1, 1)]
        for row in (("set", 8, 7), ("copy", 8, 0), ("cut", 8, 0), ("add", 8, 0, 1), ("sub", 8, 0, 1), ("mul", 8, 0, 1), ("and", 8, 0, 1),
                    ("xor", 8, 0, 1), ("addn", 8, 0, 5), ("cut", 8, 8)):
            with self.subTest(row):
                self.shorter([("out", 3)], [row, ("out", 3)], ways, 1)
                self.shorter([("out", 3)], [("out", 3), row], [way(0, 0), way(1, 1), way(1, 1)], 1)

    def test_one_used_by_an_unused_one(self):
        rows = [("addn", 6, 0, 1), ("addn", 7, 6, 1), ("mul", 8, 7, 6), ("cut", 8, 8), ("out", 3)]
        self.shorter([("out", 3)], rows, [way(0, 0)] * 5 + [way(1, 1)], 1)

    def test_set_anew_ahead_of_a_look(self):
        rows = [("addn", 6, 0, 1), ("copy", 6, 3), ("out", 6)]
        self.shorter([("out", 3)], rows, [way(0, 0)] * 3 + [way(1, 1)], 2)
        # What was unused stood between two that are now alike.
        rows = [("copy", 6, 3), ("addn", 6, 0, 1), ("copy", 6, 3), ("out", 6)]
        self.shorter([("out", 3)], rows, [way(0, 0)] * 4 + [way(1, 1)], 2)

    def test_what_is_used_stays(self):
        for row, one in ((("copy", 6, 0), spot(6)), (("addn", 6, 0, 5), spot(6, 1, 4091)), (("cut", 6, 0), spot(6))):
            short = self.shorter([("out", 3)], [row, ("out", 3)], [way(0, 0), way(0, 0, b0=one), way(1, 1)], 2)
            self.assertEqual(short.rows, (row, ("out", 3)))
        own = way(1, 2, b1=spot(6))
        short = self.shorter([("branch", 0, 20)], [("copy", 6, 1), ("test", "truth", 4, 0, True, own)], [way(0, 0)] * 2 + [way(1, 20)], 2)
        self.assertEqual(short.rows[1][5], own)

    def test_a_row_used_by_a_recipe_that_is_known(self):
        rows = [("copy", 6, 0), ("set", 7, 5), ("out", 3)]
        ways = [
            way(0, 0), way(0, (0, ((0, 1), (6, 4095)))), way(0, (4091, ((7, 1),)), b0=(4091, ((0, 1), (7, 1)))),
            way(1, (4092, ((7, 1),))),
        ]
        short = self.shorter([("out", 3)], rows, ways)
        self.assertNotIn(("copy", 6, 0), short.rows)


class Loads(Shortening):
    def test_one_that_no_load_ahead_has_stays(self):
        short = self.shorter([("load", 1, 2, 5), ("set", 1, 0)], [("load", 6, 2, 5), IDLE], [way(0, 0)] * 2 + [way(2, 3, b1=number(0))])
        self.assertEqual(short.rows[0], ("load", 6, 2, 5))
        # Not asked for by the first machine, but it may be that the piece is left there.
        short = self.shorter([("out", 1)], [("load", 6, 2, 5), IDLE, ("out", 1)], [way(0, 0)] * 3 + [way(1, 1)])
        self.assertEqual(short.rows[0], ("load", 6, 2, 5))

    def test_an_unused_one_whose_address_a_load_ahead_has(self):
        first = [("load", 1, 2, 5)]
        for row in (("load", 6, 2, 5), ("load", 2, 2, 5), ("load", 6, 7, 0)):
            rows = [("addn", 7, 2, 5), ("load", 1, 2, 5), IDLE, ("copy", 8, 2), row, IDLE]
            ways = [way(0, 0)] * 3 + [way(1, 1)] * 2 + [way(1, 1, b2=spot(8))] * 2
            with self.subTest(row):
                short = self.shorter(first, rows, ways)
                self.assertEqual([one for one in short.rows if one[0] == "load"], [("load", 1, 2, 5)])

    def test_a_used_one_stays(self):
        rows = [("load", 6, 2, 5), IDLE, IDLE, ("load", 1, 2, 5), IDLE]
        short = self.shorter([("load", 1, 2, 5)], rows, [way(0, 0)] * 5 + [way(1, 1)])
        self.assertEqual([row for row in short.rows if row[0] == "load"], [("load", 6, 2, 5), ("load", 1, 2, 5)])

    def test_behind_a_store_the_address_is_the_same_one(self):
        first = [("load", 1, 2, 5), ("store", 0, 2, 6), ("out", 1)]
        rows = [("load", 1, 2, 5), IDLE, ("store", 2, 6, 0), IDLE, ("load", 9, 2, 5), IDLE, ("out", 1)]
        short = self.shorter(first, rows, [way(0, 0)] * 2 + [way(1, 1)] + [way(2, 2)] * 4 + [way(3, 3)])
        self.assertEqual(len([row for row in short.rows if row[0] == "load"]), 1)

    def test_a_row_right_behind_keeps_the_word_late(self):
        first = [("load", 1, 2, 5), ("out", 1)]
        for behind in (("copy", 1, 1), ("addn", 1, 3, 1), ("set", 1, 7), IDLE, ("copy", 9, 1), ("load", 9, 2, 5)):
            rows = [("load", 1, 2, 5), behind, ("out", 1)]
            with self.subTest(behind):
                short = self.shorter(first, rows, [way(0, 0), way(0, 0), way(1, 1), way(2, 2)])
                self.assertEqual([row[0] for row in short.rows][::2], ["load", "out"])

    def test_a_row_behind_a_load_left_out_is_a_row_like_others(self):
        first = [("load", 1, 2, 5), ("out", 3)]
        rows = [("load", 1, 2, 5), IDLE, IDLE, ("load", 6, 2, 5), ("addn", 6, 3, 1), ("out", 3)]
        short = self.shorter(first, rows, [way(0, 0)] * 2 + [way(1, 1)] * 4 + [way(2, 2)])
        self.assertNotIn(("addn", 6, 3, 1), short.rows)


class Stores(Shortening):
    def test_a_row_right_behind_the_last_store(self):
        first = [("store", 1, 2, 5), ("jump", 20)]
        short = self.shorter(first, [("store", 2, 5, 1), IDLE], [way(0, 0), way(1, 1), way(2, 20)], 2)
        self.assertEqual([one[0] for one in short.ways], [0, 1, 2])

    def test_rows_behind_that(self):
        first = [("store", 1, 2, 5), ("jump", 20)]
        rows = [("store", 2, 5, 1), IDLE, IDLE, ("copy", 8, 1), ("set", 8, 0)]
        short = self.shorter(first, rows, [way(0, 0)] + [way(1, 1)] * 4 + [way(2, 20)], 2)
        self.assertEqual(short.ways[-1], way(2, 20))

    def test_they_stay_in_order(self):
        first = [("store", 1, 2, 5), ("out", 1), ("store", 1, 2, 5), ("out", 1)]
        rows = [("store", 2, 5, 1), ("out", 1), ("store", 2, 5, 1), ("out", 1)]
        short = self.shorter(first, rows, [way(k, k) for k in range(5)], 4)
        self.assertEqual(short.rows, tuple(rows))


class Numbers(Shortening):
    def test_each_kind_of_row(self):
        for row, n in ((("copy", 1, 6), 5), (("cut", 1, 6), 5), (("add", 1, 6, 6), 10), (("sub", 1, 3, 3), 0), (("mul", 1, 6, 6), 25),
                       (("and", 1, 6, 10), 0), (("xor", 1, 2, 2), 0), (("addn", 1, 6, 4095), 4), (("sub", 1, 10, 6), 4091),
                       (("set", 1, 5), 5), (("mul", 1, 3, 10), 0)):
            rows = [("set", 6, 5), ("copy", 9, 1), row, ("out", 1)]
            ways = [way(0, 0)] * 2 + [way(0, 0, b1=spot(9)), way(1, 2), way(2, 3)]
            with self.subTest(row):
                short = self.shorter([("set", 1, n), ("out", 1)], rows, ways)
                self.assertEqual([one for one in short.rows if one[0] not in ("copy", "out")], [("set", 1, n)])

    def test_a_load_of_a_number_stays_a_load(self):
        first = [("set", 1, 9), ("store", 1, 2, 5), ("load", 3, 2, 5), ("out", 3)]
        rows = [("set", 1, 9), ("store", 2, 5, 1), IDLE, ("load", 3, 2, 5), IDLE, ("out", 3)]
        ways = [way(0, 0), way(1, 2), way(2, 3), way(2, 3), way(2, 3), way(3, 4), way(4, 5)]
        short = self.shorter(first, rows, ways)
        self.assertIn(("load", 3, 2, 5), short.rows)

    def test_one_that_is_not_sure_is_set(self):
        rows = [("set", 6, 19), ("addn", 6, 6, 1), ("cut", 6, 6), ("test", "same", 2, 6, True, way(1, spot(2)))]
        short = self.shorter([("back", 2)], rows, [way(0, 0)] * 4 + [way(1, 20)], 2)
        self.assertEqual(short.rows[0], ("set", 6, 20))

    def test_one_that_is_not_sure_right_behind_a_load_or_a_store(self):
        test = ("test", "same", 2, 6, True, way(2, spot(2)))
        for first, ahead, behind in (
            (("load", 1, 3, 5), ("load", 1, 3, 5), way(0, 0)), (("store", 1, 3, 5), ("store", 3, 5, 1), way(1, 1)),
        ):
            rows = [("set", 7, 20), ahead, ("addn", 6, 7, 0), ("set", 6, 20), test]
            with self.subTest(ahead):
                self.shorter([first, ("back", 2)], rows, [way(0, 0)] * 2 + [behind] + [way(1, 1)] * 2 + [way(2, 20)])


class Recipes(Shortening):
    def test_numbers_have_no_spots(self):
        rows = [("set", 6, 5), ("copy", 7, 1)]
        last = way(2, (9, ((6, 4095), (9, 7))), b0=spot(6), b1=(0, ((1, 2), (7, 4095))), b2=(77, ((1, 4095), (7, 1))))
        short = self.shorter([("set", 0, 5), ("set", 2, 77)], rows, [way(0, 0), way(0, 0), last])
        self.assertEqual(short.ways[-1][1], (number(5), (0, ((1, 2), (7, 4095))), number(77), BOXES[3]))
        self.assertEqual(short.ways[-1][3], number(4))

    def test_known_truths_say_so(self):
        first = [("sub", 0, 0)]
        for zero in ((True, "same", 3, 3), (True, "same", 6, 11), (False, "truth", 9, 0), (True, "truth", 7, 0), (False, "less", 6, 6), YES):
            for less in ((False, "same", 1, 1), (True, "less", 1, 11), (True, "truth", 9, 0), (True, "less", 8, 3), NO):
                rows = [("set", 7, 1), ("set", 8, 4095)]
                with self.subTest((zero, less)):
                    short = self.shorter(first, rows, [way(0, 0)] * 2 + [way(1, 1, (zero, less), b0=number(0))], 0)
                    self.assertEqual(short.ways, (way(1, 1, (YES, NO), b0=number(0)),))

    def test_truths_that_are_not_known_stay(self):
        first = [("cmp", 0, 1)]
        for truths in (((True, "same", 0, 1), (True, "less", 0, 1)), ((True, "same", 1, 0), (True, "less", 0, 1))):
            short = self.shorter(first, [], [way(1, 1, truths)], 0)
            self.assertEqual(short.ways, (way(1, 1, truths),))

    def test_a_tests_own_way(self):
        own = way(2, spot(6), ((True, "same", 2, 2), (True, "truth", 9, 0)), b0=(0, ((1, 1), (7, 4095))))
        rows = [("copy", 6, 2), ("copy", 7, 1), ("set", 8, 20), ("test", "same", 2, 8, True, own)]
        ways = [way(0, 0)] * 3 + [way(done, place, (YES, NO), b0=number(0)) for done, place in ((1, 1), (2, 20))]
        short = self.shorter([("sub", 0, 0), ("back", 2)], rows, ways, 3)
        self.assertEqual(short.rows[-1][5], way(2, spot(6), (YES, NO), b0=number(0)))


class Edges(Shortening):
    def test_without_rows(self):
        for one, first in ((way(0, 0), [("stop",)]), (way(1, 20), [("jump", 20)]), (way(1, 1, b1=spot(2)), [("move", 1, 2)])):
            short = self.shorter(first, [], [one], 0)
            self.assertEqual(short.ways, (one,))

    def test_with_sixty_rows(self):
        for row, left in ((IDLE, 0), (("set", 6, 3), 0), (("addn", 6, 6, 1), 0), (("cut", 3, 3), 0), (("load", 6, 1, 1), None)):
            made = piece([("jump", 20)], [row] * 60, [way(0, 0)] * 60 + [way(1, 20)])
            short = self.checked(PAGES, made)
            if left is not None:
                self.assertEqual(len(short.rows), left)

    def test_sixty_rows_that_are_used(self):
        rows = [("addn", 6, 1, 1)] + [("addn", 6, 6, 1)] * 59
        ways = [way(0, 0)] + [way(0, 0, b1=spot(6, 1, 4096 - k)) for k in range(1, 61)]
        short = self.checked(PAGES, piece([("stop",)], rows, ways))
        self.assertEqual(short.rows, tuple(rows))

    def test_no_way_has_more_done_than_the_last(self):
        first = [("move", 1, 1), ("move", 2, 2)]
        for done in ((0, 0, 0), (0, 1, 1), (1, 1, 2), (2, 2, 2), (0, 0, 2)):
            short = self.shorter(first, [IDLE, ("set", 7, 1)], [way(k, k) for k in done], 0)
            self.assertEqual(short.ways, (way(done[-1], done[-1]),))

    def test_a_test_held_to_the_way_ahead(self):
        first = [("move", 1, 1), ("branch", 0, 20)]
        rows = [IDLE, ("test", "truth", 4, 0, True, way(1, 1))]
        short = self.shorter(first, rows, [way(0, 0), way(1, 1), way(2, 20)], 1)
        self.assertEqual(short.ways, (way(1, 1), way(2, 20)))


class Refusals(Shortening):
    def refused(self, k, pages, made):
        """A piece that is wrong at k is refused with that."""
        self.assertEqual(judged(pages, made), k)
        with self.assertRaises(BadPiece) as caught:
            shortened(pages, made)
        self.assertEqual(caught.exception.row, k)

    def test_wrong_pieces(self):
        first = [("out", 1), ("out", 2)]
        rows, ways = (("out", 1), IDLE, ("out", 2)), (way(0, 0), way(1, 1), way(1, 1), way(2, 2))
        for k in range(4):
            self.refused(k, PAGES, piece(first, rows, instead(ways, k, way(ways[k][0], 9))))
        for k in (0, 2):
            self.refused(k, PAGES, piece(first, instead(rows, k, ("out", 3)), ways))
        self.refused(1, PAGES, piece(first, instead(rows, 1, ("test", "truth", 4, 0, True, way(1, 1))), ways))
        self.refused(2, PAGES, piece(first, instead(rows, 1, ("set", 3, 0)), ways))
        # The truths' recipe looks into a spot that is not sure.
        not_sure = piece([("stop",)], [("addn", 4, 4, 0)], [way(0, 0), way(0, 0)])
        self.refused(1, PAGES, not_sure)

    def test_by_the_pages(self):
        made = piece([("jump", 20)], [IDLE], [way(0, 0), way(1, 20)])
        self.refused(1, [NO_RUN, ALL], made)
        self.assertEqual(shortened([ALL, NO_RUN], made).rows, ())
        for pages in ([], [ALL] * 9):
            with self.assertRaises(BadPages):
                shortened(pages, made)

    def test_wrong_pieces_at_random(self):
        refused = 0
        for seed in range(60):
            r = random.Random(seed)
            pages, cells, made = random_right(r, Table(), 5, 4)
            for count in range(4 if made is not None else 0):
                k = r.randrange(len(made.ways))
                other = copied(made, ways=instead(made.ways, k, instead(made.ways[k], 3, number(r.randrange(50)))))
                wrong = judged(pages, other)
                if wrong is not None:
                    self.refused(wrong, pages, other)
                    refused += 1
        self.assertGreater(refused, 80)


class AtRandom(Shortening):
    def test_made_pieces(self):
        whys, fewer = set(), 0
        for seed in range(150):
            r = random.Random(seed)
            pages, cells, making = random_making(r)
            made = making.piece()
            if made is not None:
                short = self.checked(pages, made)
                fewer += len(made.rows) - len(short.rows)
                whys |= compare_rides(self, r, pages, cells, short, 2)
        self.assertEqual(whys, {"break", "end", "read", "write", "text", "test"})
        self.assertGreater(fewer, 50)

    def test_pieces_with_much_to_leave_out(self):
        whys, fewer = set(), 0
        for seed in range(250):
            r = random.Random(seed)
            pages, cells, made = random_right(r, Table())
            if made is not None:
                with self.subTest(seed):
                    short = self.checked(pages, made)
                    fewer += len(made.rows) - len(short.rows)
                    whys |= compare_rides(self, r, pages, cells, short, 2)
        self.assertEqual(whys, {"break", "end", "read", "write", "text", "test"})
        self.assertGreater(fewer, 1000)


class TheAskersOwn(Shortening):
    def test_nothing_handed_in_is_changed_and_the_same_is_told_again(self):
        for seed in range(30):
            pages, cells, made = random_right(random.Random(seed), Table(), 10, 5)
            if made is not None:
                before = copy.deepcopy((fields(made), pages))
                told = fields(shortened(pages, made))
                self.assertEqual(fields(shortened(pages, made)), told)
                self.assertEqual(fields(shortened(list(pages), again(made))), told)
                self.assertEqual((fields(made), pages), before)

    def test_a_piece_of_its_own(self):
        made = piece([("jump", 20)], [], [way(1, 20)])
        short = shortened(PAGES, made)
        self.assertEqual(fields(short), fields(made))
        self.assertIsNot(short, made)
        for field in fields(short)[1:]:
            self.assertIs(type(field), tuple)

    def test_of_a_plain_piece(self):
        first = [("jump", 2), ("set", 0, 5), ("jump", 6), ("out", 0)]
        made = plain_piece(PAGES, memory(first), 0, 14)
        short = self.checked(PAGES, made)
        self.assertEqual(len(made.rows), 4)
        self.assertEqual(short.rows, (("set", 0, 5), ("out", 0)))
        self.assertEqual(short.ways[-1][0], 4)


if __name__ == "__main__":
    unittest.main()
